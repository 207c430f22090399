package dfa

import (
	"math"
	"math/rand"
	"reflect"
	"slices"
	"strconv"
	"strings"
	"testing"

	"pleacher/api"
	"pleacher/bytesets"
	"pleacher/nfa"
	"pleacher/regex"
)

// read are the expressions of some texts.
func read(t *testing.T, texts ...string) []api.Regex {
	t.Helper()
	var l []api.Regex
	for _, s := range texts {
		x, e := regex.Parse(s)
		if e != api.OK {
			t.Fatalf("%q: %d", s, e)
		}
		l = append(l, x)
	}
	return l
}

// machine is the one of some rules.
func machine(t *testing.T, l ...api.Regex) *nfa.Machine {
	t.Helper()
	m, e := nfa.Build(l...)
	if e != api.OK {
		t.Fatalf("%s: %d", showAll(l), e)
	}
	return m
}

// build is the table of some rules, which may be.
func build(t *testing.T, l ...api.Regex) api.Dfa {
	t.Helper()
	d, e := Build(machine(t, l...))
	if e != api.OK || !Right(d) {
		t.Fatalf("%s: %v, %v, %d", showAll(l), d.Next, d.Rule, e)
	}
	return d
}

// refuses holds Build against an error, beside which there is no table.
func refuses(t *testing.T, name string, code api.Errno, m *nfa.Machine) {
	t.Helper()
	if d, e := Build(m); e != code || d.Class != [256]byte{} || len(d.Next) > 0 || len(d.Rule) > 0 {
		t.Errorf("%s: %d states, %d rules, %d, want %d", name, len(d.Next), len(d.Rule), e, code)
	}
}

// is holds Next and Rule of a table against what is wanted.
func is(t *testing.T, name string, d api.Dfa, next [][]int, rule ...int) {
	t.Helper()
	if !slices.EqualFunc(d.Next, next, slices.Equal[[]int]) || !slices.Equal(d.Rule, rule) {
		t.Errorf("%s: %v, %v, want %v, %v", name, d.Next, d.Rule, next, rule)
	}
}

// rows are lists of numbers.
func rows(l ...[]int) [][]int { return l }

// row are numbers.
func row(l ...int) []int { return l }

func TestExamples(t *testing.T) {
	d := build(t, read(t, "a*b", "a")...)
	is(t, "a*b, a", d, rows(row(-1, 1, 2), row(-1, 3, 2), row(-1, -1, -1), row(-1, 3, 2)), -1, 1, 0, -1)
	for c := range 256 {
		want := byte(0)
		if c == 'a' || c == 'b' {
			want = byte(c - 'a' + 1)
		}
		if d.Class[c] != want {
			t.Errorf("class of %d: %d", c, d.Class[c])
		}
	}
	for s, want := range map[string]int{"": 0, "a": 1, "b": 2, "aa": 3, "aaa": 3, "ab": 2, "aaab": 2, "ba": -1, "c": -1} {
		if k := Run(d, s); k != want {
			t.Errorf("Run %q: %d, want %d", s, k, want)
		}
	}
}

func TestP81Nil(t *testing.T) {
	refuses(t, "nil", api.ErrArg, nil)
}

// TestP81Zero: a machine of no rules has one front, its start, which doesn't live.
func TestP81Zero(t *testing.T) {
	d, e := Build(&nfa.Machine{})
	if e != api.OK || !Right(d) || d.Class != [256]byte{} {
		t.Errorf("%d, %v", e, d.Class)
	}
	is(t, "zero", d, rows(row(-1)), -1)
}

// TestP81Tables: tables of all edges, written out.
func TestP81Tables(t *testing.T) {
	for _, c := range []struct {
		name string
		l    []api.Regex
		next [][]int
		rule []int
	}{
		{"a", []api.Regex{a()}, rows(row(-1, 1), row(-1, -1)), row(-1, 0)},
		{"the empty text alone", []api.Regex{nilOf()}, rows(row(-1)), row(0)},
		{"the empty text alone, by a Cat", []api.Regex{catOf()}, rows(row(-1)), row(0)},
		{"the empty text alone, by a Star", []api.Regex{starOf(altOf())}, rows(row(-1)), row(0)},
		{"the empty text alone, by a Star of nothing", []api.Regex{starOf(nothing())}, rows(row(-1)), row(0)},
		{"the empty text alone, by the second rule", []api.Regex{nothing(), nilOf()}, rows(row(-1)), row(1)},
		{"the empty text alone, by a way that ends", []api.Regex{altOf(nilOf(), deadEnd(a(), b()))}, rows(row(-1, -1, -1)), row(0)},
		{"every text", []api.Regex{starOf(every())}, rows(row(0)), row(0)},
		{"every text, by Ones in two classes", []api.Regex{starOf(altOf(a(), every()))}, rows(row(0, 0)), row(0)},
		{"every text but the empty one", []api.Regex{catOf(every(), starOf(every()))}, rows(row(1), row(1)), row(-1, 0)},
		{"every text, first by another rule", []api.Regex{nilOf(), starOf(every())}, rows(row(1), row(1)), row(0, 1)},
		{"nothing: an Alt without kids", []api.Regex{altOf()}, rows(row(-1)), row(-1)},
		{"nothing: a One of nothing", []api.Regex{nothing()}, rows(row(-1)), row(-1)},
		{"nothing: behind a One", []api.Regex{deadEnd(a())}, rows(row(-1, -1)), row(-1)},
		{"nothing: behind a Star, whose front is the start again", []api.Regex{deadEnd(starOf(a()))}, rows(row(-1, -1)), row(-1)},
		{"nothing: behind Stars, and a One of nothing", []api.Regex{catOf(starOf(a()), b(), starOf(a()), nothing())}, rows(row(-1, -1, -1)), row(-1)},
		{"nothing: two rules", []api.Regex{altOf(), catOf(b(), nothing(), a())}, rows(row(-1, -1, -1)), row(-1)},
		{"nothing ahead of a rule", []api.Regex{altOf(), a()}, rows(row(-1, 1), row(-1, -1)), row(-1, 1)},
		{"a front that doesn't live behind one that does", []api.Regex{altOf(a(), catOf(a(), b(), nothing()))}, rows(row(-1, 1, -1), row(-1, -1, -1)), row(-1, 0)},
		{"a front that doesn't live goes round", []api.Regex{altOf(a(), catOf(b(), starOf(b()), nothing()))}, rows(row(-1, 1, -1), row(-1, -1, -1)), row(-1, 0)},
		{"rules that are alike", []api.Regex{a(), a()}, rows(row(-1, 1), row(-1, -1)), row(-1, 0)},
		{"rules that are alike, behind another", []api.Regex{b(), a(), a()}, rows(row(-1, 1, 2), row(-1, -1, -1), row(-1, -1, -1)), row(-1, 1, 0)},
		{"a rule that is hidden", []api.Regex{starOf(a()), a()}, rows(row(-1, 0)), row(0)},
		{"a rule that is hidden in part", []api.Regex{a(), starOf(a())}, rows(row(-1, 1), row(-1, 2), row(-1, 2)), row(1, 0, 1)},
		{"a rule that is hidden as a whole", []api.Regex{starOf(altOf(a(), b())), catOf(a(), b(), a()), b()}, rows(row(-1, 0, 0)), row(0)},
		{"ends of several rules, in order", []api.Regex{a(), b(), oneOf('c')}, rows(row(-1, 1, 2, 3), row(-1, -1, -1, -1), row(-1, -1, -1, -1), row(-1, -1, -1, -1)), row(-1, 0, 1, 2)},
		{"ends of one rule are one state", []api.Regex{altOf(a(), b(), oneOf('c'))}, rows(row(-1, 1, 1, 1), row(-1, -1, -1, -1)), row(-1, 0)},
		{"fronts unlike, states alike", []api.Regex{altOf(catOf(a(), a()), catOf(b(), a()))}, rows(row(-1, 1, 1), row(-1, 2, -1), row(-1, -1, -1)), row(-1, -1, 0)},
		{"fronts unlike, the start among them", []api.Regex{starOf(a())}, rows(row(-1, 0)), row(0)},
		{"fronts unlike, the start among them, by many ways", []api.Regex{starOf(altOf(a(), catOf(a(), a()), b()))}, rows(row(-1, 0, 0)), row(0)},
		{"byte 0 is of the first set", []api.Regex{catOf(oneOf(0), b())}, rows(row(1, -1, -1), row(-1, -1, 2), row(-1, -1, -1)), row(-1, -1, 0)},
		{"numbers go by classes, not by rules", []api.Regex{b(), a()}, rows(row(-1, 1, 2), row(-1, -1, -1), row(-1, -1, -1)), row(-1, 1, 0)},
		{"numbers go by states, then by classes", []api.Regex{catOf(b(), a()), catOf(a(), b()), catOf(a(), a())},
			rows(row(-1, 1, 2), row(-1, 3, 4), row(-1, 5, -1), row(-1, -1, -1), row(-1, -1, -1), row(-1, -1, -1)), row(-1, -1, -1, 2, 1, 0)},
		{"classes that nothing tells apart", []api.Regex{altOf(a(), b()), altOf(oneOf('a', 'b'))}, rows(row(-1, 1, 1), row(-1, -1, -1)), row(-1, 0)},
		{"classes of Ones that are never come to", []api.Regex{altOf(a(), catOf(altOf(), oneOf('x')))}, rows(row(-1, 1, -1), row(-1, -1, -1)), row(-1, 0)},
	} {
		d := build(t, c.l...)
		is(t, c.name, d, c.next, c.rule...)
		if !sameTable(d, tableOf(machine(t, c.l...))) {
			t.Errorf("%s: the words say otherwise", c.name)
		}
	}
}

// TestP81Rows: of texts, how many states, and which rule each short text has.
func TestP81Rows(t *testing.T) {
	for _, c := range []struct {
		texts  []string
		states int
		want   map[string]int
	}{
		{[]string{"(a|b)*abb"}, 4, map[string]int{"": -1, "abb": 0, "babb": 0, "abbb": -1, "ab": -1, "c": -1}},
		{[]string{"aa|ba"}, 3, map[string]int{"aa": 0, "ba": 0, "ab": -1, "a": -1}},
		{[]string{"if", "[a-z]+"}, 4, map[string]int{"i": 1, "if": 0, "iff": 1, "f": 1, "": -1, "I": -1}},
		{[]string{"[a-z]+", "if"}, 2, map[string]int{"i": 0, "if": 0, "": -1}},
		{[]string{"if", "[a-z]+", "[0-9]+", " +"}, 6, map[string]int{"if": 0, "ix": 1, "007": 2, "  ": 3, "0a": -1, "é": -1}},
		{[]string{"é", "€"}, 6, map[string]int{"é": 0, "€": 1, "\xc3": -1, "\xe2\x82": -1, "\xa9": -1}},
		{[]string{"(a|b)(a|b)", "ab?"}, 4, map[string]int{"a": 1, "ab": 0, "b": -1, "bb": 0, "aba": -1}},
		{[]string{"a?a?a?"}, 4, map[string]int{"": 0, "a": 0, "aa": 0, "aaa": 0, "aaaa": -1}},
	} {
		l := read(t, c.texts...)
		d := build(t, l...)
		if len(d.Next) != c.states {
			t.Errorf("%q: %d states: %v, %v", c.texts, len(d.Next), d.Next, d.Rule)
		}
		if !sameTable(d, tableOf(machine(t, l...))) {
			t.Errorf("%q: the words say otherwise", c.texts)
		}
		for s, want := range c.want {
			if r, ok := Rule(d, Run(d, s)); ok != (want >= 0) || r != max(want, 0) {
				t.Errorf("%q: %q has %d, %v, want %d", c.texts, s, r, ok, want)
			}
		}
	}
}

// TestP81Front: machines of 500 fronts have a table, those of 501 have none, however many states that table would have.
func TestP81Front(t *testing.T) {
	counter := func(n int) []api.Regex {
		l := []api.Regex{starOf(oneOf('a', 'b')), a()}
		return []api.Regex{catOf(append(l, slices.Repeat([]api.Regex{oneOf('a', 'b')}, n)...)...)}
	}
	endless := func(n int, c byte) api.Regex {
		return catOf(append(slices.Repeat([]api.Regex{oneOf(c)}, n), nothing())...)
	}
	for _, c := range []struct {
		name           string
		l              []api.Regex
		fronts, states int
	}{
		{"two rows", []api.Regex{rowOf(399, 'a'), rowOf(99, 'b')}, 499, 499},
		{"two rows, full", []api.Regex{rowOf(399, 'a'), rowOf(100, 'b')}, 500, 500},
		{"two rows, one more", []api.Regex{rowOf(399, 'a'), rowOf(101, 'b')}, 501, 0},
		{"two rows that end alike, full", []api.Regex{altOf(rowOf(199, 'a'), rowOf(198, 'b')), rowOf(103, 'c')}, 500, 500},
		{"two rows that end alike, one more", []api.Regex{altOf(rowOf(199, 'a'), rowOf(198, 'b')), rowOf(104, 'c')}, 501, 0},
		{"none that lives", []api.Regex{endless(397, 'a'), endless(101, 'b')}, 499, 1},
		{"none that lives, full", []api.Regex{endless(397, 'a'), endless(102, 'b')}, 500, 1},
		{"none that lives, one more", []api.Regex{endless(397, 'a'), endless(103, 'b')}, 501, 0},
		{"all alike, full", []api.Regex{starOf(every()), rowOf(399, 'a'), rowOf(99, 'b')}, 500, 1},
		{"all alike, one more", []api.Regex{starOf(every()), rowOf(399, 'a'), rowOf(100, 'b')}, 501, 0},
		{"some live, full", []api.Regex{a(), endless(397, 'b'), endless(101, 'c')}, 500, 2},
		{"some live, one more", []api.Regex{a(), endless(397, 'b'), endless(102, 'c')}, 501, 0},
		{"the last 8", counter(7), 256, 256},
		{"the last 9", counter(8), 501, 0},
		{"the last 30", counter(29), 501, 0},
		{"3 full rows", []api.Regex{rowOf(399, 'a'), rowOf(399, 'b'), rowOf(399, 'c')}, 501, 0},
	} {
		m := machine(t, c.l...)
		if n := len(plainOf(m, 500).fronts); min(n, 501) != c.fronts {
			t.Errorf("%s: %d fronts", c.name, n)
		}
		if c.fronts > 500 {
			refuses(t, c.name, api.ErrBig, m)
			continue
		}
		if d := build(t, c.l...); len(d.Next) != c.states || len(d.Rule) != c.states {
			t.Errorf("%s: %d states, %d rules", c.name, len(d.Next), len(d.Rule))
		}
	}
	d := build(t, rowOf(399, 'a'), rowOf(100, 'b'))
	for _, n := range []int{0, 1, 99, 100, 101, 398, 399, 400, 1000} {
		r, ok := Rule(d, Run(d, strings.Repeat("a", n)))
		s, so := Rule(d, Run(d, strings.Repeat("b", n)))
		if ok != (n == 399) || r != 0 || so != (n == 100) || so && s != 1 {
			t.Errorf("%d: %d, %v; %d, %v", n, r, ok, s, so)
		}
	}
}

// TestP81Rules: all 32 rules have their own states.
func TestP81Rules(t *testing.T) {
	var l []api.Regex
	for i := range 32 {
		l = append(l, oneOf(byte(255-i)))
	}
	d := build(t, l...)
	if len(d.Next) != 33 {
		t.Fatalf("%d states", len(d.Next))
	}
	for i := range 32 {
		if r, ok := Rule(d, Step(d, 0, byte(255-i))); !ok || r != i {
			t.Errorf("rule %d: %d, %v", i, r, ok)
		}
		if k := Step(d, 0, byte(255-i)); k != 32-i {
			t.Errorf("rule %d: state %d", i, k)
		}
	}
}

// TestP81Class: Class is layer 5's of all Ones' sets; of each state Next has as many entries as there are classes.
func TestP81Class(t *testing.T) {
	some := rand.New(rand.NewSource(81))
	for i := range 200 {
		var sets []api.Set
		var l []api.Regex
		for range 1 + some.Intn(8) {
			s := api.Set{some.Uint64(), some.Uint64(), some.Uint64(), some.Uint64()}
			if some.Intn(2) == 0 {
				s = bytesets.Range(byte(some.Intn(256)), byte(some.Intn(256)))
			}
			sets = append(sets, s)
			l = append(l, api.Regex{Kind: api.One, Set: s})
		}
		x := api.Regex{Kind: byte(api.Cat + i%2), Kids: l}
		d := build(t, x)
		class, count := bytesets.Classes(sets...)
		if d.Class != class || class != classesOf(sets) {
			t.Fatalf("%x: %v, want %v", sets, d.Class, class)
		}
		for _, r := range d.Next {
			if len(r) != count {
				t.Fatalf("%x: %d entries, want %d", sets, len(r), count)
			}
		}
	}
}

// TestP81Wide: a table of 256 classes.
func TestP81Wide(t *testing.T) {
	var l []api.Regex
	for i := range 8 {
		var s api.Set
		for c := range 256 {
			if c>>i&1 == 1 {
				s = bytesets.Or(s, set(byte(c)))
			}
		}
		l = append(l, api.Regex{Kind: api.One, Set: s})
	}
	d := build(t, l...)
	if len(d.Next[0]) != 256 || len(d.Next) != 9 {
		t.Fatalf("%d classes, %d states", len(d.Next[0]), len(d.Next))
	}
	for c := range 256 {
		want := 0
		for want < 8 && c>>want&1 == 0 {
			want++
		}
		if r, ok := Rule(d, Step(d, 0, byte(c))); int(d.Class[c]) != c || ok != (c > 0) || ok && r != want {
			t.Errorf("%d: class %d, %d, %v", c, d.Class[c], r, ok)
		}
	}
}

// TestP81Plain: tables of any rules against what the words say, state by state and class by class.
func TestP81Plain(t *testing.T) {
	some := rand.New(rand.NewSource(8))
	unlived, joined := 0, 0
	for range 3000 {
		l := randomRules(some)
		m := machine(t, l...)
		d, want := build(t, l...), tableOf(m)
		if !sameTable(d, want) {
			t.Fatalf("%s:\n%v, %v\nwant\n%v, %v", showAll(l), d.Next, d.Rule, want.Next, want.Rule)
		}
		p := plainOf(m, 500)
		p.seeLive()
		if slices.Contains(p.live, false) {
			unlived++
		}
		if len(d.Next) < len(p.fronts) {
			joined++
		}
	}
	if unlived < 50 || joined < 100 {
		t.Errorf("only %d had fronts that don't live, %d such that are alike", unlived, joined)
	}
}

// plainTable is one that may be, with entries of all kinds, and a state that is never come to.
func plainTable() api.Dfa {
	d := api.Dfa{Next: rows(row(1, 2, -1), row(-1, 0, 1), row(2, 2, 2), row(-1, -1, 0)), Rule: row(-1, 31, 0, 5)}
	for c := range 256 {
		d.Class[c] = byte(c / 128)
	}
	d.Class[0], d.Class[255] = 1, 2
	return d
}

// states is a table of so many states, each leading to the next one, the last to none.
func states(n int) api.Dfa {
	var d api.Dfa
	for i := range n {
		d.Next = append(d.Next, row(i+1))
		d.Rule = append(d.Rule, i%33-1)
	}
	if n > 0 {
		d.Next[n-1][0] = -1
	}
	return d
}

// right are tables that may be.
func right() map[string]api.Dfa {
	l := map[string]api.Dfa{
		"plain":                                  plainTable(),
		"one state":                              {Next: rows(row(-1)), Rule: row(-1)},
		"round":                                  {Next: rows(row(0)), Rule: row(31)},
		"two states":                             states(2),
		"499 states":                             states(499),
		"500 states":                             states(500),
		"states that could be one":               {Next: rows(row(1), row(0)), Rule: row(3, 3)},
		"states that don't live":                 {Next: rows(row(1), row(1)), Rule: row(-1, -1)},
		"a state that isn't come to":             {Next: rows(row(-1), row(0)), Rule: row(0, 0)},
		"more entries than classes":              {Next: rows(row(-1, 0, 0)), Rule: row(0)},
		"many more entries than there are bytes": {Next: rows(slices.Repeat(row(0), 100000)), Rule: row(0)},
	}
	full := api.Dfa{Next: rows(slices.Repeat(row(-1), 256)), Rule: row(-1)}
	for c := range 256 {
		full.Class[c] = byte(255 - c)
	}
	l["256 classes"] = full
	high := states(1)
	high.Class[200] = 7
	high.Next[0] = slices.Repeat(row(-1), 8)
	l["classes that no byte has"] = high
	shared := row(1, 0, 1)
	l["rows that are one"] = api.Dfa{Next: rows(shared, shared, shared), Rule: shared}
	return l
}

// wrong are tables that may not be.
func wrong() map[string]api.Dfa {
	l := map[string]api.Dfa{
		"zero":                    {},
		"empty lists":             {Next: rows(), Rule: row()},
		"rules without states":    {Rule: row(-1)},
		"states without rules":    {Next: rows(row(-1))},
		"501 states":              states(501),
		"a million states":        states(1000000),
		"a state without entries": {Next: rows(row()), Rule: row(-1)},
		"states without entries":  {Next: rows(nil, nil), Rule: row(-1, -1)},
	}
	change := func(name string, f func(d *api.Dfa)) {
		d := plainTable()
		f(&d)
		l[name] = d
	}
	change("a rule more", func(d *api.Dfa) { d.Rule = append(d.Rule, -1) })
	change("a rule fewer", func(d *api.Dfa) { d.Rule = d.Rule[:3] })
	change("no rules", func(d *api.Dfa) { d.Rule = nil })
	change("a state more", func(d *api.Dfa) { d.Next = append(d.Next, row(-1, -1, -1)) })
	change("a state fewer", func(d *api.Dfa) { d.Next = d.Next[:3] })
	change("no states", func(d *api.Dfa) { d.Next = nil })
	change("no entries anywhere", func(d *api.Dfa) { d.Next = make([][]int, 4) })
	change("all too short", func(d *api.Dfa) {
		for i := range d.Next {
			d.Next[i] = d.Next[i][:2]
			d.Next[i][0], d.Next[i][1] = -1, -1
		}
	})
	for i := range 4 {
		at := " at " + strconv.Itoa(i)
		change("no row"+at, func(d *api.Dfa) { d.Next[i] = nil })
		change("a shorter row"+at, func(d *api.Dfa) { d.Next[i] = d.Next[i][:2] })
		change("a longer row"+at, func(d *api.Dfa) { d.Next[i] = append(d.Next[i], -1) })
		for _, r := range []int{-2, -3, 32, 33, 255, 256, math.MaxInt, math.MinInt} {
			change("rule "+strconv.Itoa(r)+at, func(d *api.Dfa) { d.Rule[i] = r })
		}
		for j := range 3 {
			for _, k := range []int{-2, -3, 4, 5, 500, math.MaxInt, math.MinInt} {
				change("entry "+strconv.Itoa(k)+at+", "+strconv.Itoa(j), func(d *api.Dfa) { d.Next[i][j] = k })
			}
		}
	}
	for _, c := range []int{0, 1, 127, 128, 200, 255} {
		for _, k := range []byte{3, 4, 255} {
			change("class "+strconv.Itoa(int(k))+" of byte "+strconv.Itoa(c), func(d *api.Dfa) { d.Class[c] = k })
		}
	}
	change("an entry that no class has", func(d *api.Dfa) {
		for i := range d.Next {
			d.Next[i] = append(d.Next[i], -1)
		}
		d.Next[3][3] = 4
	})
	wide := api.Dfa{Next: rows(slices.Repeat(row(-1), 255)), Rule: row(-1)}
	wide.Class[9] = 255
	l["255 entries for class 255"] = wide
	return l
}

func TestP82Right(t *testing.T) {
	for name, d := range right() {
		if !Right(d) {
			t.Errorf("%s may not be", name)
		}
	}
	for name, d := range wrong() {
		if Right(d) {
			t.Errorf("%s may be", name)
		}
	}
}

// far are numbers of states that a table of n states hasn't.
func far(n int) []int {
	return row(-1, -2, -500, n, n+1, 500, 501, 1000000, math.MaxInt, math.MinInt, math.MaxInt32, math.MinInt32)
}

// TestP82Wrong: of a table that may not be nothing is told.
func TestP82Wrong(t *testing.T) {
	for name, d := range wrong() {
		for _, k := range append(far(len(d.Next)), 0, 1, 2, 3, 4) {
			for _, c := range []byte{0, 1, 'a', 127, 128, 200, 255} {
				if got := Step(d, k, c); got != -1 {
					t.Errorf("%s: Step %d by %d: %d", name, k, c, got)
				}
			}
			if r, ok := Rule(d, k); r != 0 || ok {
				t.Errorf("%s: Rule of %d: %d, %v", name, k, r, ok)
			}
		}
		for _, s := range []string{"", "a", "\x00", "\x7f", "\x80", "\xff", "aaaa", strings.Repeat("\xff", 1000)} {
			if got := Run(d, s); got != -1 {
				t.Errorf("%s: Run %q: %d", name, s, got)
			}
		}
	}
}

// TestP82Step: all states by all bytes, as the table says.
func TestP82Step(t *testing.T) {
	for name, d := range right() {
		for k := range d.Next {
			if k > 3 && k < len(d.Next)-1 {
				continue // a table of 500 is asked at its ends
			}
			for c := range 256 {
				if len(d.Next) > 4 && c%85 != 0 {
					continue
				}
				if got, want := Step(d, k, byte(c)), d.Next[k][d.Class[c]]; got != want {
					t.Errorf("%s: Step %d by %d: %d, want %d", name, k, c, got, want)
				}
			}
		}
		for _, k := range far(len(d.Next)) {
			if k >= 0 && k < len(d.Next) {
				continue
			}
			for _, c := range []byte{0, 127, 128, 255, 'a'} {
				if got := Step(d, k, c); got != -1 {
					t.Errorf("%s: Step %d by %d: %d", name, k, c, got)
				}
			}
			if r, ok := Rule(d, k); r != 0 || ok {
				t.Errorf("%s: Rule of %d: %d, %v", name, k, r, ok)
			}
		}
	}
	d := plainTable()
	for _, c := range []struct{ k, by, want int }{
		{0, 0, 2}, {0, 1, 1}, {0, 127, 1}, {0, 128, 2}, {0, 254, 2}, {0, 255, -1},
		{1, 0, 0}, {1, 127, -1}, {1, 128, 0}, {1, 255, 1},
		{3, 0, -1}, {3, 127, -1}, {3, 128, -1}, {3, 255, 0},
	} {
		if got := Step(d, c.k, byte(c.by)); got != c.want {
			t.Errorf("Step %d by %d: %d, want %d", c.k, c.by, got, c.want)
		}
	}
}

func TestP82Run(t *testing.T) {
	d := plainTable()
	for s, want := range map[string]int{
		"": 0, "a": 1, "\x00": 2, "\x7f": 1, "\x80": 2, "\xff": -1, "\xffa": -1, "aa": -1, "aaa": -1, "aa\x80": -1, "aa\xff": -1,
		"a\x00": 0, "a\x80a": 1, "a\xff": 1, "a\xff\xff\x80": 0, "\x80a\xff\x00": 2,
		strings.Repeat("a\x80", 100000): 0, strings.Repeat("a\x80", 100000) + "\xff": -1, "\x80" + strings.Repeat("a", 100000): 2,
	} {
		if got := Run(d, s); got != want {
			t.Errorf("Run %.20q: %d, want %d", s, got, want)
		}
	}
	for name, d := range right() {
		for _, s := range textsOf([]string{"\x00", "a", "\x7f", "\x80", "\xff"}, 3) {
			want := 0
			for _, c := range []byte(s) {
				want = Step(d, want, c)
			}
			if got := Run(d, s); got != want {
				t.Errorf("%s: Run %q: %d, want %d", name, s, got, want)
			}
			if len(d.Next) > 400 {
				break
			}
		}
	}
	chain := states(500)
	for _, n := range []int{0, 1, 250, 498, 499, 500, 501, 5000} {
		want := n
		if n > 499 {
			want = -1
		}
		if got := Run(chain, strings.Repeat("x", n)); got != want {
			t.Errorf("Run of %d: %d", n, got)
		}
	}
}

func TestP82Rule(t *testing.T) {
	d := plainTable()
	for k, want := range d.Rule {
		if r, ok := Rule(d, k); ok != (want >= 0) || r != max(want, 0) {
			t.Errorf("Rule of %d: %d, %v", k, r, ok)
		}
	}
	chain := states(500)
	for _, k := range []int{0, 1, 2, 32, 33, 34, 498, 499} {
		want := k%33 - 1
		if r, ok := Rule(chain, k); ok != (want >= 0) || r != max(want, 0) {
			t.Errorf("Rule of %d of 500: %d, %v", k, r, ok)
		}
	}
}

// TestP83Texts: Rule of Run is the machine's, and the first rule that matches, for all short texts.
func TestP83Texts(t *testing.T) {
	texts := textsOf([]string{"a", "b", "\xff", "\x00"}, 4)
	some := rand.New(rand.NewSource(83))
	for range 300 {
		l := randomRules(some)
		m, d := machine(t, l...), build(t, l...)
		for _, s := range texts {
			r, ok := Rule(d, Run(d, s))
			if want, is := nfa.Rule(m.Run(s)); r != want || ok != is {
				t.Fatalf("%s: %q has %d, %v, want %d, %v", showAll(l), s, r, ok, want, is)
			}
			first := slices.IndexFunc(l, func(x api.Regex) bool { return regex.Matches(x, s) })
			if ok != (first >= 0) || r != max(first, 0) {
				t.Fatalf("%s: %q has %d, %v, want %d", showAll(l), s, r, ok, first)
			}
		}
	}
}

// TestP83Tokens: rules as grammars have them, by texts of all kinds.
func TestP83Tokens(t *testing.T) {
	l := read(t, "if", "else", "[a-z_][a-z_0-9]*", "0|[1-9][0-9]*", `"([^"\\]|\\.)*"`, "( |\n)+", "é+", ".", "")
	m, d := machine(t, l...), build(t, l...)
	for _, s := range []string{"", "i", "if", "iff", "e", "els", "else", "elsewhere", "_0", "0", "00", "10", `"`, `""`, `"a`, `"\"`, `"\""`, `"é"`, " ", " \n ", "é", "éé", "é\xc3", "\xc3", "\xff", "\x00", "\n", "€", "\U0001F600", "a b", strings.Repeat("z", 4000)} {
		r, ok := Rule(d, Run(d, s))
		if want, is := nfa.Rule(m.Run(s)); r != want || ok != is {
			t.Errorf("%.20q has %d, %v, want %d, %v", s, r, ok, want, is)
		}
		if k := Run(d, s); k < 0 && !nfa.Dead(m.Run(s)) && s != "" {
			t.Errorf("%.20q: no state, but the machine goes on", s)
		}
	}
}

// least holds a table against what is told of the least one: each state is come to; all live, but a lonely start; no two could be one.
func least(t *testing.T, name string, d api.Dfa) {
	t.Helper()
	n := len(d.Next)
	met, live := make([]bool, n), make([]bool, n)
	met[0] = true
	unlike := make([][]bool, n)
	for i := range unlike {
		unlike[i] = make([]bool, n+1) // the last one: unlike no state at all
	}
	for range n + 1 {
		for i, r := range d.Next {
			live[i] = live[i] || d.Rule[i] >= 0
			for _, k := range r {
				if k >= 0 {
					met[k] = met[k] || met[i]
					live[i] = live[i] || live[k]
				}
			}
			for j := range n {
				unlike[i][j] = unlike[i][j] || d.Rule[i] != d.Rule[j]
				for c := range r {
					x, y := d.Next[i][c], d.Next[j][c]
					unlike[i][j] = unlike[i][j] || (x < 0) != (y < 0) || x >= 0 && y >= 0 && unlike[x][y]
				}
			}
		}
	}
	for i := range n {
		if !met[i] || !live[i] && n > 1 {
			t.Errorf("%s: state %d: come to: %v, lives: %v", name, i, met[i], live[i])
		}
		for j := range i {
			if !unlike[i][j] {
				t.Errorf("%s: states %d and %d could be one", name, i, j)
			}
		}
	}
	if !live[0] && (n != 1 || slices.Max(d.Next[0]) >= 0) {
		t.Errorf("%s: a start that doesn't live: %v", name, d.Next)
	}
}

func TestP83Least(t *testing.T) {
	some := rand.New(rand.NewSource(833))
	for range 800 {
		l := randomRules(some)
		least(t, showAll(l), build(t, l...))
	}
	for _, texts := range [][]string{{"(a|b)*a(a|b)(a|b)"}, {"(ab|ba)*", "a*", "b+"}, {"aaaa|bbbb|abab|baba"}, {"[a-z]+", "[a-m]+", "if"}, {"a+b+|b+a+"}} {
		least(t, strings.Join(texts, ", "), build(t, read(t, texts...)...))
	}
}

// reworded is an expression that matches the same, of the same sets, put together another way.
func reworded(some *rand.Rand, x api.Regex) api.Regex {
	y := api.Regex{Kind: x.Kind, Set: x.Set}
	for _, k := range x.Kids {
		y.Kids = append(y.Kids, reworded(some, k))
	}
	if y.Kind == api.Alt {
		slices.Reverse(y.Kids)
	}
	switch some.Intn(6) {
	case 0:
		return altOf(y, y)
	case 1:
		return catOf(nilOf(), y, catOf())
	case 2:
		return altOf(altOf(), y)
	case 3:
		if y.Kind == api.Star {
			return starOf(y)
		}
	case 4:
		if y.Kind == api.Star {
			return altOf(nilOf(), catOf(y.Kids[0], y))
		}
	}
	return y
}

// TestP83Same: machines that read alike, with the same classes, have the same table.
func TestP83Same(t *testing.T) {
	some := rand.New(rand.NewSource(834))
	tried := 0
	for range 500 {
		l := randomRules(some)
		var other []api.Regex
		for _, x := range l {
			other = append(other, reworded(some, x))
		}
		if slices.ContainsFunc(other, func(x api.Regex) bool { return !regex.Right(x) }) {
			continue
		}
		tried++
		if d, e := build(t, l...), build(t, other...); !sameTable(d, e) {
			t.Fatalf("%s: %v, %v\n%s: %v, %v", showAll(l), d.Next, d.Rule, showAll(other), e.Next, e.Rule)
		}
	}
	if tried < 400 {
		t.Errorf("only %d were tried", tried)
	}
	for _, c := range [][2][]string{
		{{"(a|b)*"}, {"(a*b*)*"}},
		{{"a+"}, {"aa*"}},
		{{"a+"}, {"a*a"}},
		{{"ab|ac"}, {"a(b|c)"}},
		{{"(ab)*a"}, {"a(ba)*"}},
		{{"a", "a*"}, {"a", "(aa)*|a(aa)*"}},
		{{"a", "b"}, {"a", "a|b"}},
		{{"a*", "b"}, {"a*", "b|a"}},
	} {
		if d, e := build(t, read(t, c[0]...)...), build(t, read(t, c[1]...)...); !sameTable(d, e) {
			t.Errorf("%q: %v, %v; %q: %v, %v", c[0], d.Next, d.Rule, c[1], e.Next, e.Rule)
		}
	}
	for _, l := range [][]api.Regex{{altOf()}, {nothing()}, {deadEnd(every())}} {
		is(t, showAll(l), build(t, l...), rows(row(-1)), -1)
	}
}

// TestMachineStays: a machine that was given is as it was, and answers so.
func TestMachineStays(t *testing.T) {
	some := rand.New(rand.NewSource(85))
	for range 100 {
		l := randomRules(some)
		m, other := machine(t, l...), machine(t, l...)
		d := build(t, l...)
		for range 2 {
			if e, code := Build(m); code != api.OK || !sameTable(d, e) {
				t.Fatalf("%s: %v, %d", showAll(l), e.Next, code)
			}
		}
		if !reflect.DeepEqual(m, other) {
			t.Fatalf("%s: the machine turned", showAll(l))
		}
	}
	big := machine(t, rowOf(399, 'a'), rowOf(101, 'b'))
	refuses(t, "too big", api.ErrBig, big)
	if !reflect.DeepEqual(big, machine(t, rowOf(399, 'a'), rowOf(101, 'b'))) {
		t.Error("a machine that is too big turned")
	}
}

// TestTableStays: a table that was given is as it was, its spare room too.
func TestTableStays(t *testing.T) {
	all := right()
	for name, d := range wrong() {
		all["wrong: "+name] = d
	}
	for name, d := range all {
		if len(d.Next) > 500 {
			continue
		}
		roomy := api.Dfa{Class: d.Class, Rule: append(slices.Clone(d.Rule), 77, 78)[:len(d.Rule)]}
		roomy.Next = make([][]int, 0, len(d.Next)+2)
		for _, r := range d.Next {
			roomy.Next = append(roomy.Next, append(slices.Clone(r), 79, 80)[:len(r)])
		}
		roomy.Next = append(roomy.Next, row(81), row(82))[:len(d.Next)]
		seen := copyOf(roomy)
		Right(roomy)
		Step(roomy, 0, 'a')
		Run(roomy, "a\x00\xff")
		Rule(roomy, 0)
		same := sameTable(seen, roomy) && slices.Equal(roomy.Rule[:len(d.Rule)+2][len(d.Rule):], row(77, 78))
		spare := roomy.Next[:len(d.Next)+2]
		same = same && spare[len(d.Next)][0] == 81 && spare[len(d.Next)+1][0] == 82
		for _, r := range roomy.Next {
			same = same && slices.Equal(r[:len(r)+2][len(r):], row(79, 80))
		}
		if !same {
			t.Errorf("%s turned", name)
		}
	}
}

// TestAnswersAreNew: what is done to an answer is seen in no other, in no machine, and no two lists of it share memory.
func TestAnswersAreNew(t *testing.T) {
	for _, texts := range [][]string{{"a*b", "a"}, {"if", "[a-z]+", "[0-9]+"}, {"(a|b)*abb"}, {"é|€"}, {""}} {
		m := machine(t, read(t, texts...)...)
		d, _ := Build(m)
		other, _ := Build(m)
		seen := copyOf(d)
		lists := append(slices.Clone(d.Next), d.Rule)
		for i, l := range lists {
			l = l[:cap(l)]
			for j := range l {
				l[j] = 1000 + i
			}
		}
		for i, l := range lists {
			if slices.ContainsFunc(l[:cap(l)], func(k int) bool { return k != 1000+i }) {
				t.Errorf("%q: list %d shares memory", texts, i)
			}
		}
		clear(d.Next[:cap(d.Next)])
		if !sameTable(other, seen) {
			t.Errorf("%q: two answers share memory", texts)
		}
		if again, _ := Build(m); !sameTable(again, seen) {
			t.Errorf("%q: an answer shares memory with the machine", texts)
		}
	}
}
