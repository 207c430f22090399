package nfa

import (
	"math"
	"math/rand"
	"slices"
	"strconv"
	"strings"
	"testing"

	"pleacher/api"
	"pleacher/regex"
)

// read are the expressions of some texts.
func read(t *testing.T, texts ...string) []api.Regex {
	t.Helper()
	var l []api.Regex
	for _, s := range texts {
		x, e := regex.Parse(s)
		if e != api.OK {
			t.Fatalf("%q: %d", s, e)
		}
		l = append(l, x)
	}
	return l
}

// build is the machine of rules that may be.
func build(t *testing.T, l ...api.Regex) *Machine {
	t.Helper()
	m, e := Build(l...)
	if e != api.OK || m == nil {
		t.Fatalf("Build(%s): %v, %d", showAll(l), m, e)
	}
	return m
}

// refuses holds Build against an error, beside which there is no machine.
func refuses(t *testing.T, name string, code api.Errno, l ...api.Regex) {
	t.Helper()
	if m, e := Build(l...); e != code || m != nil {
		t.Errorf("%s: %v, %d, want %d", name, m, e, code)
	}
}

// front is one with such Ones and rules.
func front(ones []int, rules ...int) api.Front {
	return api.Front{Ones: ones, Rules: rules}
}

// ones are numbers.
func ones(l ...int) []int { return l }

// is holds a front against the one that is wanted.
func is(t *testing.T, name string, got, want api.Front) {
	t.Helper()
	if !same(got, want) {
		t.Errorf("%s: %v, want %v", name, got, want)
	}
}

func TestExamples(t *testing.T) {
	m := build(t, read(t, "a*b", "a")...)
	if m.Ones() != 3 || m.Set(0) != set('a') || m.Set(1) != set('b') || m.Set(2) != set('a') {
		t.Errorf("%d Ones: %x, %x, %x", m.Ones(), m.Set(0), m.Set(1), m.Set(2))
	}
	is(t, "Start", m.Start(), front(ones(0, 1, 2)))
	f := m.Step(m.Start(), 'a')
	is(t, "by a", f, front(ones(0, 1), 1))
	is(t, "then by b", m.Step(f, 'b'), front(nil, 0))
	is(t, "Run", m.Run("ab"), front(nil, 0))
}

// wrong are expressions that may not be.
func wrong() map[string]api.Regex {
	l := map[string]api.Regex{
		"a Star without a kid":  starOf(),
		"a Star with two":       starOf(a(), b()),
		"a Nil with a kid":      nilOf(a()),
		"a One with a kid":      {Kind: api.One, Set: set('a'), Kids: []api.Regex{a()}},
		"a wrong kid":           catOf(a(), starOf()),
		"a wrong kid of an Alt": altOf(api.Regex{Kind: 5}),
		"kind 5":                {Kind: 5},
		"kind 255":              {Kind: 255, Kids: []api.Regex{a()}},
		"401 nodes":             catOf(slices.Repeat([]api.Regex{a()}, 400)...),
		"61 deep":               starred(60, a()),
		"very deep":             starred(100000, a()),
		"very many":             altOf(slices.Repeat([]api.Regex{nilOf()}, 1000000)...),
	}
	loop := catOf(a(), a())
	loop.Kids[1] = loop
	l["a list that is its own kid"] = loop
	wide := altOf(a(), a())
	wide.Kids[0], wide.Kids[1] = wide, wide
	l["an Alt that is both its kids"] = wide
	twice := a()
	for range 59 {
		twice = catOf(twice, twice)
	}
	l["lists that are shared, of very many nodes"] = twice
	return l
}

func TestP71Wrong(t *testing.T) {
	refuses(t, "no rules", api.ErrArg)
	refuses(t, "an empty list", api.ErrArg, []api.Regex{}...)
	refuses(t, "an empty list with room", api.ErrArg, []api.Regex{a()}[:0]...)
	for name, x := range wrong() {
		refuses(t, name+", alone", api.ErrArg, x)
		refuses(t, name+", first", api.ErrArg, x, a(), b())
		refuses(t, name+", last", api.ErrArg, a(), b(), x)
		refuses(t, name+", between", api.ErrArg, a(), x, b())
		for _, n := range []int{31, 32, 33, 100} {
			for _, at := range []int{0, n / 2, n} {
				l := slices.Insert(slices.Repeat([]api.Regex{a()}, n), at, x)
				refuses(t, name+", at "+strconv.Itoa(at)+" of "+strconv.Itoa(n+1), api.ErrArg, l...)
			}
		}
		full := slices.Repeat([]api.Regex{rowOf(400)}, 6)
		refuses(t, name+", behind too many nodes", api.ErrArg, append(full, x)...)
	}
}

// rowOf is an expression of so many nodes, one of them a Cat, the others Ones.
func rowOf(n int) api.Regex {
	return catOf(slices.Repeat([]api.Regex{a()}, n-1)...)
}

func TestP71Rules(t *testing.T) {
	for _, n := range []int{1, 2, 31, 32} {
		m := build(t, slices.Repeat([]api.Regex{a()}, n)...)
		if f := m.Run("a"); m.Ones() != n || len(f.Rules) != n || len(m.Start().Ones) != n {
			t.Errorf("%d rules: %d Ones, %v", n, m.Ones(), f)
		}
	}
	for _, n := range []int{33, 34, 1000} {
		for _, x := range []api.Regex{a(), nilOf(), catOf(), altOf(), rowOf(400)} {
			refuses(t, strconv.Itoa(n)+" of "+show(x), api.ErrBig, slices.Repeat([]api.Regex{x}, n)...)
		}
	}
}

func TestP71Nodes(t *testing.T) {
	full := rowOf(400)
	for _, c := range []struct {
		name string
		l    []api.Regex
	}{
		{"5 of 400", []api.Regex{full, full, full, full, full}},
		{"4 of 400, 399 and 1", []api.Regex{nilOf(), full, full, rowOf(399), full, full}},
		{"32 rules", append(slices.Repeat([]api.Regex{rowOf(62)}, 31), rowOf(78))},
		{"Stars", append(slices.Repeat([]api.Regex{starred(59, nilOf())}, 31), rowOf(140))},
		{"Nils", slices.Repeat([]api.Regex{altOf(slices.Repeat([]api.Regex{nilOf()}, 399)...)}, 5)},
		{"kids in kids", slices.Repeat([]api.Regex{catOf(rowOf(199), altOf(rowOf(100), starOf(rowOf(98))))}, 5)},
	} {
		sum := 0
		for _, x := range c.l {
			sum += count(x)
		}
		if sum != 2000 {
			t.Fatalf("%s: %d nodes", c.name, sum)
		}
		build(t, c.l...)
		if len(c.l) < 32 {
			refuses(t, c.name+", one more", api.ErrBig, append(slices.Clone(c.l), nilOf())...)
			refuses(t, c.name+", one more, first", api.ErrBig, append([]api.Regex{nilOf()}, c.l...)...)
		}
		more := slices.Clone(c.l)
		last := len(more) - 1
		more[last] = catOf(append(slices.Clone(more[last].Kids), nilOf())...)
		if regex.Right(more[last]) {
			refuses(t, c.name+", one more in the last", api.ErrBig, more...)
		}
	}
	refuses(t, "32 of 400", api.ErrBig, slices.Repeat([]api.Regex{full}, 32)...)
	m := build(t, full, full, full, full, full)
	if m.Ones() != 5*399 {
		t.Errorf("%d Ones", m.Ones())
	}
	is(t, "a full one", m.Run(strings.Repeat("a", 399)), front(nil, 0, 1, 2, 3, 4))
	is(t, "one too few", m.Run(strings.Repeat("a", 398)), front(ones(398, 797, 1196, 1595, 1994)))
}

// TestP72Shapes: what each edge's machine is, written out.
func TestP72Shapes(t *testing.T) {
	for _, c := range []struct {
		name  string
		l     []api.Regex
		start api.Front
		after []api.Front
	}{
		{"Nil", []api.Regex{nilOf()}, front(nil, 0), nil},
		{"Nil with a Set", []api.Regex{{Set: set('a')}}, front(nil, 0), nil},
		{"Cat without kids", []api.Regex{catOf()}, front(nil, 0), nil},
		{"Alt without kids", []api.Regex{altOf()}, front(nil), nil},
		{"One", []api.Regex{a()}, front(ones(0)), []api.Front{front(nil, 0)}},
		{"One of nothing", []api.Regex{none()}, front(ones(0)), []api.Front{front(nil, 0)}},
		{"Star", []api.Regex{starOf(a())}, front(ones(0), 0), []api.Front{front(ones(0), 0)}},
		{"Star of a Star", []api.Regex{starOf(starOf(a()))}, front(ones(0), 0), []api.Front{front(ones(0), 0)}},
		{"Star of Nil", []api.Regex{starOf(nilOf())}, front(nil, 0), nil},
		{"Star of a Cat without kids", []api.Regex{starOf(catOf())}, front(nil, 0), nil},
		{"Star of an Alt without kids", []api.Regex{starOf(altOf())}, front(nil, 0), nil},
		{"Star of what may be empty", []api.Regex{starOf(altOf(nilOf(), a()))}, front(ones(0), 0), []api.Front{front(ones(0), 0)}},
		{"Star of a Cat", []api.Regex{starOf(catOf(a(), b()))}, front(ones(0), 0), []api.Front{front(ones(1)), front(ones(0), 0)}},
		{"Star of Stars", []api.Regex{starOf(catOf(starOf(a()), starOf(b())))}, front(ones(0, 1), 0), []api.Front{front(ones(0, 1), 0), front(ones(0, 1), 0)}},
		{"Star of a One of nothing", []api.Regex{starOf(none())}, front(ones(0), 0), []api.Front{front(ones(0), 0)}},
		{"Cat", []api.Regex{catOf(a(), b(), a())}, front(ones(0)), []api.Front{front(ones(1)), front(ones(2)), front(nil, 0)}},
		{"Cat of Stars", []api.Regex{catOf(starOf(a()), starOf(b()))}, front(ones(0, 1), 0), []api.Front{front(ones(0, 1), 0), front(ones(1), 0)}},
		{"Cat with nothing between", []api.Regex{catOf(a(), nilOf(), catOf(), b())}, front(ones(0)), []api.Front{front(ones(1)), front(nil, 0)}},
		{"Star ahead, One behind", []api.Regex{catOf(starOf(a()), b())}, front(ones(0, 1)), []api.Front{front(ones(0, 1)), front(nil, 0)}},
		{"One ahead, Star behind", []api.Regex{catOf(b(), starOf(a()))}, front(ones(0)), []api.Front{front(ones(1), 0), front(ones(1), 0)}},
		{"Alt", []api.Regex{altOf(a(), nilOf(), b())}, front(ones(0, 1), 0), []api.Front{front(nil, 0), front(nil, 0)}},
		{"Alt of Stars", []api.Regex{altOf(starOf(a()), starOf(b()))}, front(ones(0, 1), 0), []api.Front{front(ones(0), 0), front(ones(1), 0)}},
		{"Alt of a Star and a One", []api.Regex{altOf(starOf(a()), b())}, front(ones(0, 1), 0), []api.Front{front(ones(0), 0), front(nil, 0)}},
		{"Alt of Stars, in a Star of a Cat", []api.Regex{starOf(catOf(altOf(starOf(a()), b()), a()))}, front(ones(0, 1, 2), 0), []api.Front{front(ones(0, 2)), front(ones(2)), front(ones(0, 1, 2), 0)}},
		// What matches nothing: what is behind a One goes by how the expressions are put together alone.
		{"nothing behind a One", []api.Regex{catOf(a(), none())}, front(ones(0)), []api.Front{front(ones(1)), front(nil, 0)}},
		{"nothing ahead of a One", []api.Regex{catOf(none(), a())}, front(ones(0)), []api.Front{front(ones(1)), front(nil, 0)}},
		{"nothing between Ones", []api.Regex{catOf(a(), none(), b())}, front(ones(0)), []api.Front{front(ones(1)), front(ones(2)), front(nil, 0)}},
		{"an Alt without kids behind a One", []api.Regex{catOf(a(), altOf())}, front(ones(0)), []api.Front{front(nil)}},
		{"an Alt without kids behind two", []api.Regex{catOf(a(), b(), altOf())}, front(ones(0)), []api.Front{front(ones(1)), front(nil)}},
		{"an Alt without kids ahead", []api.Regex{catOf(altOf(), a(), b())}, front(nil), []api.Front{front(ones(1)), front(nil, 0)}},
		{"an Alt without kids between", []api.Regex{catOf(a(), altOf(), b())}, front(ones(0)), []api.Front{front(nil), front(nil, 0)}},
		{"a Star of what matches nothing", []api.Regex{starOf(catOf(a(), altOf()))}, front(ones(0), 0), []api.Front{front(nil)}},
		{"a Star of a Cat of nothing and a One", []api.Regex{starOf(catOf(altOf(), a()))}, front(nil, 0), []api.Front{front(nil, 0)}},
		{"an Alt of what matches nothing", []api.Regex{altOf(catOf(a(), none()), b())}, front(ones(0, 2)), []api.Front{front(ones(1)), front(nil, 0), front(nil, 0)}},
		{"the same rule twice", []api.Regex{starOf(a()), starOf(a())}, front(ones(0, 1), 0, 1), []api.Front{front(ones(0), 0), front(ones(1), 1)}},
		{"rules without Ones between", []api.Regex{a(), nilOf(), altOf(), b()}, front(ones(0, 1), 1), []api.Front{front(nil, 0), front(nil, 3)}},
		{"several rules that end alike", []api.Regex{starOf(a()), nilOf(), catOf(), starOf(b())}, front(ones(0, 1), 0, 1, 2, 3), []api.Front{front(ones(0), 0), front(ones(1), 3)}},
	} {
		m := build(t, c.l...)
		is(t, c.name+": Start", m.Start(), c.start)
		is(t, c.name+": Run of nothing", m.Run(""), c.start)
		if m.Ones() != len(c.after) {
			t.Errorf("%s: %d Ones", c.name, m.Ones())
		}
		for i, f := range c.after {
			is(t, c.name+": After "+strconv.Itoa(i), m.After(i), f)
		}
	}
}

// far are numbers that are none of a machine's Ones.
func far(m *Machine) []int {
	n := m.Ones()
	return []int{-1, -2, n, n + 1, 2*n + 7, 100000, 1 << 31, 1 << 40, math.MaxInt, math.MinInt, -100000, -n, math.MinInt + n, math.MaxInt - 1}
}

func TestP72NoSuch(t *testing.T) {
	for _, l := range [][]api.Regex{read(t, "a*b", "a"), {nilOf()}, {starOf(a())}, {rowOf(400), rowOf(400)}} {
		m := build(t, l...)
		for _, i := range far(m) {
			if i == 0 && m.Ones() > 0 {
				continue
			}
			if m.Set(i) != (api.Set{}) || !Dead(m.After(i)) {
				t.Errorf("%d of %d: %x, %v", i, m.Ones(), m.Set(i), m.After(i))
			}
		}
	}
}

// TestP72Numbers: Ones are numbered rule by rule, in the order of their rule's sets.
func TestP72Numbers(t *testing.T) {
	some := rand.New(rand.NewSource(72))
	for range 2000 {
		l := randomRules(some)
		m := build(t, l...)
		var want []api.Set
		for _, x := range l {
			want = append(want, regex.Sets(x)...)
		}
		if m.Ones() != len(want) {
			t.Fatalf("%s: %d Ones, want %d", showAll(l), m.Ones(), len(want))
		}
		for i, s := range want {
			if m.Set(i) != s {
				t.Fatalf("%s: Set(%d) %x, want %x", showAll(l), i, m.Set(i), s)
			}
		}
	}
}

// TestP72Plain: fronts of rules of all shapes, against what the words say.
func TestP72Plain(t *testing.T) {
	some := rand.New(rand.NewSource(721))
	for range 5000 {
		l := randomRules(some)
		m, p := build(t, l...), plainOf(l)
		if !same(m.Start(), p.start) {
			t.Fatalf("%s: Start %v, want %v", showAll(l), m.Start(), p.start)
		}
		for i, want := range p.behind {
			if !same(m.After(i), want) {
				t.Fatalf("%s: After(%d) %v, want %v", showAll(l), i, m.After(i), want)
			}
		}
	}
}

// lettered is an expression whose Ones each have a byte of their own, from one on: how many came before it.
func lettered(x api.Regex, next *byte) api.Regex {
	if x.Kind == api.One {
		x.Set = set(*next)
		*next++
	}
	kids := x.Kids
	x.Kids = nil
	for _, k := range kids {
		x.Kids = append(x.Kids, lettered(k, next))
	}
	return x
}

// choked tells whether an expression has an Alt without kids.
func choked(x api.Regex) bool {
	return x.Kind == api.Alt && len(x.Kids) == 0 || slices.ContainsFunc(x.Kids, choked)
}

// TestP72ByTexts: where nothing is empty, a One may be next just if some text that matches goes on so.
func TestP72ByTexts(t *testing.T) {
	some := rand.New(rand.NewSource(722))
	tried := 0
	for range 4000 {
		next := byte('a')
		x := lettered(randomRegex(some, 4), &next)
		n := int(next - 'a')
		if n > 3 || choked(x) {
			continue
		}
		tried++
		var letters []string
		for i := range n {
			letters = append(letters, string(rune('a'+i)))
		}
		var start api.Front
		after := make([]api.Front, n)
		for _, s := range textsOf(letters, 2*n) {
			if !regex.Matches(x, s) {
				continue
			}
			if s == "" {
				start.Rules = ones(0)
				continue
			}
			start.Ones = append(start.Ones, int(s[0]-'a'))
			for i := range len(s) - 1 {
				at := s[i] - 'a'
				after[at].Ones = append(after[at].Ones, int(s[i+1]-'a'))
			}
			after[s[len(s)-1]-'a'].Rules = ones(0)
		}
		m := build(t, x)
		is(t, show(x)+": Start", m.Start(), sorted(start))
		for i := range n {
			is(t, show(x)+": After "+strconv.Itoa(i), m.After(i), sorted(after[i]))
		}
	}
	if tried < 1000 {
		t.Errorf("only %d were tried", tried)
	}
}

func TestP73Step(t *testing.T) {
	m := build(t, read(t, "a*b", "a", "[ab]c")...) // Ones: a b | a | [ab] c
	for _, c := range []struct {
		name string
		f    api.Front
		by   byte
		want api.Front
	}{
		{"the start by a", m.Start(), 'a', front(ones(0, 1, 4), 1)},
		{"the start by b", m.Start(), 'b', front(ones(4), 0)},
		{"the start by c", m.Start(), 'c', front(nil)},
		{"a front without Ones", api.Front{}, 'a', front(nil)},
		{"a front of rules alone", front(nil, 0, 1, 2), 'a', front(nil)},
		{"its rules play no part", front(ones(4), 0, 1), 'c', front(nil, 2)},
		{"wrong rules play no part", front(ones(4), -7, 99), 'c', front(nil, 2)},
		{"one that isn't behind anything", front(ones(1, 4)), 'b', front(nil, 0)},
		{"the same One twice", front(ones(0, 0, 0)), 'a', front(ones(0, 1))},
		{"out of order", front(ones(4, 3, 2, 1, 0)), 'a', front(ones(0, 1, 4), 1)},
		{"out of order, twice", front(ones(3, 0, 3, 0)), 'a', front(ones(0, 1, 4))},
		{"Ones that aren't the machine's", front(ones(5, 6, 99, math.MaxInt)), 'a', front(nil)},
		{"negative ones", front(ones(-1, -5, math.MinInt)), 'a', front(nil)},
		{"wrong ones among others", front(ones(-1, 2, 5, 3, math.MaxInt, math.MinInt)), 'a', front(ones(4), 1)},
		{"wrong ones by byte 0", front(ones(-1, 5)), 0, front(nil)},
	} {
		is(t, c.name, m.Step(c.f, c.by), c.want)
	}
	for _, i := range far(m) {
		for c := range 256 {
			if f := m.Step(front(ones(i)), byte(c)); !Dead(f) {
				t.Errorf("Step of One %d by %d: %v", i, c, f)
			}
		}
	}
}

// TestP73Bytes: all bytes, by sets at the edges of what a set has.
func TestP73Bytes(t *testing.T) {
	var l []api.Regex
	edges := []byte{0, 63, 64, 127, 128, 191, 192, 255}
	for _, c := range edges {
		l = append(l, oneOf(c))
	}
	var high api.Set
	high[2], high[3] = math.MaxUint64, math.MaxUint64
	full := api.Set{math.MaxUint64, math.MaxUint64, math.MaxUint64, math.MaxUint64}
	l = append(l, none(), api.Regex{Kind: api.One, Set: high}, api.Regex{Kind: api.One, Set: full})
	m := build(t, l...)
	for c := range 256 {
		var want []int
		if i := slices.Index(edges, byte(c)); i >= 0 {
			want = append(want, i)
		}
		if c >= 128 {
			want = append(want, 9)
		}
		want = append(want, 10)
		is(t, "Step by "+strconv.Itoa(c), m.Step(m.Start(), byte(c)), front(nil, want...))
		is(t, "Run of "+strconv.Itoa(c), m.Run(string([]byte{byte(c)})), front(nil, want...))
	}
}

// TestP73Plain: steps of fronts of any numbers, and runs of all short texts, against what the words say.
func TestP73Plain(t *testing.T) {
	texts := textsOf([]string{"a", "b", "\xff", "\x00"}, 4)
	some := rand.New(rand.NewSource(73))
	for range 600 {
		l := randomRules(some)
		m, p := build(t, l...), plainOf(l)
		for _, s := range texts {
			if got := m.Run(s); !same(got, p.run(s)) {
				t.Fatalf("%s: Run(%q) %v, want %v", showAll(l), s, got, p.run(s))
			}
		}
		for range 50 {
			var f api.Front
			for range some.Intn(6) {
				f.Ones = append(f.Ones, some.Intn(m.Ones()+6)-3)
			}
			f.Rules = []int{some.Intn(9) - 3}
			c := []byte{0, 127, 128, 255, 'a', 'b'}[some.Intn(6)]
			if got := m.Step(f, c); !same(got, p.step(f, c)) {
				t.Fatalf("%s: Step(%v, %d) %v, want %v", showAll(l), f, c, got, p.step(f, c))
			}
		}
	}
}

// TestP73Run: a run is the start, stepped by all bytes, also those that are no whole text.
func TestP73Run(t *testing.T) {
	m := build(t, read(t, "if", "[a-z]+", "é*", ".", "")...)
	for _, s := range []string{"", "i", "if", "iff", "é", "éé", "\xc3", "\xa9", "\xc3\xa9\xc3", "\xff", "\x00", "if\n", "a\xc3", "\xe2\x82\xac", "\xf0\x9f\x98\x80", strings.Repeat("z", 4000)} {
		f := m.Start()
		for _, c := range []byte(s) {
			f = m.Step(f, c)
		}
		is(t, "Run "+strconv.Quote(s), m.Run(s), f)
	}
	for s, want := range map[string][]int{"": {2, 4}, "i": {1, 3}, "if": {0, 1}, "iff": {1}, "é": {2, 3}, "éé": {2}, "\xc3": nil, "\xa9": nil, "\xc3\xa9\xc3": nil, "\n": nil, "if\n": nil, "\xff": nil, "\x00": {3}, "\x7f": {3}, "\x80": nil} {
		if f := m.Run(s); !slices.Equal(f.Rules, want) {
			t.Errorf("Run(%q): %v, want %v", s, f.Rules, want)
		}
	}
	if f := m.Run("é\xc3"); Dead(f) {
		t.Error("a text that may still go on is dead")
	}
	for _, s := range []string{"\xa9", "if\n", "I F", "ifé"} {
		if f := m.Run(s); !Dead(f) {
			t.Errorf("Run(%q): %v", s, f)
		}
	}
}

func TestP73Rule(t *testing.T) {
	for _, c := range []struct {
		f    api.Front
		want int
		ok   bool
	}{
		{api.Front{}, 0, false},
		{front(ones(0, 1)), 0, false},
		{front([]int{}, []int{}...), 0, false},
		{front(nil, 0), 0, true},
		{front(nil, 7), 7, true},
		{front(ones(0), 1, 3, 9), 1, true},
		{front(ones(0), 9, 3, 1), 1, true},
		{front(ones(0), 3, 1, 9), 1, true},
		{front(ones(4), 5, 5), 5, true},
		{front(nil, 31, 0), 0, true},
		{front(nil, math.MaxInt), math.MaxInt, true},
		{front(nil, 2, -1, 5), -1, true},
		{front(nil, math.MaxInt, math.MinInt), math.MinInt, true},
	} {
		if r, ok := Rule(c.f); r != c.want || ok != c.ok {
			t.Errorf("Rule(%v): %d, %v", c.f, r, ok)
		}
	}
}

func TestP74Dead(t *testing.T) {
	for _, c := range []struct {
		f    api.Front
		want bool
	}{
		{api.Front{}, true},
		{api.Front{Ones: []int{}, Rules: []int{}}, true},
		{api.Front{Ones: ones(1, 2)[:0], Rules: ones(3)[:0]}, true},
		{front(ones(0)), false},
		{front(nil, 0), false},
		{front(ones(0, 3), 1), false},
		{front(ones(-1)), false},
		{front(nil, -1), false},
	} {
		if Dead(c.f) != c.want {
			t.Errorf("Dead(%v): %v", c.f, Dead(c.f))
		}
	}
}

// TestP75Plain: the rule of a run is the first that matches, and the run's rules are all that match.
func TestP75Plain(t *testing.T) {
	texts := textsOf([]string{"a", "b", "\xff", "\x00"}, 4)
	some := rand.New(rand.NewSource(75))
	for range 400 {
		l := randomRules(some)
		m := build(t, l...)
		for _, s := range texts {
			var want []int
			for r, x := range l {
				if regex.Matches(x, s) {
					want = append(want, r)
				}
			}
			f := m.Run(s)
			if !slices.Equal(f.Rules, want) {
				t.Fatalf("%s, %q: %v, want %v", showAll(l), s, f.Rules, want)
			}
			first := 0
			if len(want) > 0 {
				first = want[0]
			}
			if r, ok := Rule(f); r != first || ok != (len(want) > 0) {
				t.Fatalf("%s, %q: Rule %d, %v", showAll(l), s, r, ok)
			}
		}
	}
}

// TestP75Tokens: the rules of an ordinary language.
func TestP75Tokens(t *testing.T) {
	texts := []string{"if|else", "[a-zA-Z_][a-zA-Z0-9_]*", "[0-9]+(\\.[0-9]+)?", "\"([^\"\\\\]|\\\\.)*\"", "//.*", "[ \\t\\n\\r]+", "[\\-+*/]", "é+", "else"}
	rules := read(t, texts...)
	m := build(t, rules...)
	back := build(t, slices.Concat(rules[8:], rules[:8])...)
	for s, want := range map[string]int{"if": 0, "else": 0, "els": 1, "elsewhere": 1, "_": 1, "x9": 1, "9x": -1, "42": 2, "4.2": 2, "4.": -1, ".": -1, `""`: 3, `"é\"€"`: 3, `"`: -1, "//": 4, "// 😀": 4, "//\n": -1, "\n \t": 5, "/": 6, "+": 6, "++": -1, "éé": 7, "\xc3": -1, "": -1} {
		r, ok := Rule(m.Run(s))
		if ok != (want >= 0) || ok && r != want {
			t.Errorf("%q: %d, %v, want %d", s, r, ok, want)
		}
		want++
		if s == "else" {
			want = 0
		}
		if r, ok := Rule(back.Run(s)); ok != (want > 0 || s == "else") || ok && r != want {
			t.Errorf("%q, turned: %d, %v, want %d", s, r, ok, want)
		}
	}
}

// TestEnds: machines in which one may go very many ways come to an end while the test still runs.
func TestEnds(t *testing.T) {
	long := strings.Repeat("a", 4000)
	nested := starred(29, altOf(a(), starOf(catOf(a(), starOf(a())))))
	many := catOf(slices.Repeat([]api.Regex{starOf(starOf(a()))}, 130)...)
	wide := starOf(altOf(slices.Repeat([]api.Regex{a()}, 390)...))
	m := build(t, nested, many, wide, starred(59, a()))
	if f := m.Run(long); !slices.Equal(f.Rules, ones(0, 1, 2, 3)) {
		t.Errorf("%v", f.Rules)
	}
	if f := m.Run(long + "b" + long); !Dead(f) {
		t.Errorf("%v", f)
	}
	if f := m.Step(front(slices.Repeat(ones(0, -1, 1<<40), 1000000)), 'a'); !same(f, m.After(0)) {
		t.Errorf("%v", f)
	}
	if f := m.Run("b" + strings.Repeat(long, 10000)); !Dead(f) {
		t.Errorf("%v", f)
	}
}

// withRoom is an expression whose lists have spare room with something in it; room gets all lists, with that.
func withRoom(x api.Regex, room *[][]api.Regex) api.Regex {
	l := make([]api.Regex, 0, len(x.Kids)+3)
	for _, k := range x.Kids {
		l = append(l, withRoom(k, room))
	}
	n := len(l)
	l = append(l, b(), starOf(a()), api.Regex{Kind: 77})
	*room = append(*room, l)
	x.Kids = l[:n]
	return x
}

// TestRulesStay: rules that were given stay as they were, with their spare room, and what becomes of them later doesn't change the machine.
func TestRulesStay(t *testing.T) {
	some := rand.New(rand.NewSource(7))
	for range 500 {
		var room [][]api.Regex
		all := withRoom(catOf(randomRules(some)...), &room)
		l := all.Kids
		p := plainOf(l)
		var kept [][]api.Regex
		for _, k := range room {
			kept = append(kept, slices.Clone(k))
		}
		m := build(t, l...)
		m.Run("aab")
		for i, k := range room {
			if !slices.EqualFunc(k, kept[i], sameRegex) {
				t.Fatalf("a list of %s became another", showAll(l))
			}
		}
		for _, k := range room {
			for i := range k {
				k[i] = starOf(oneOf('q'))
			}
		}
		checkAll(t, m, p)
	}
}

// checkAll holds all that a machine answers against what it has to.
func checkAll(t *testing.T, m *Machine, p *plain) {
	t.Helper()
	is(t, "Start", m.Start(), p.start)
	is(t, "Run", m.Run("ab"), p.run("ab"))
	for i, f := range p.behind {
		is(t, "After", m.After(i), f)
		if m.Set(i) != p.sets[i] {
			t.Errorf("Set(%d): %x", i, m.Set(i))
		}
		is(t, "Step", m.Step(front(ones(i)), 'a'), p.step(front(ones(i)), 'a'))
	}
}

// spoil writes into all that a front has, and beyond.
func spoil(f api.Front) {
	for _, l := range [][]int{f.Ones, f.Rules} {
		l = l[:cap(l)]
		for i := range l {
			l[i] = -77
		}
	}
}

// TestAnswersAreNew: fronts that were answered are the asker's alone, and so are the lists of one.
func TestAnswersAreNew(t *testing.T) {
	some := rand.New(rand.NewSource(77))
	for range 500 {
		l := randomRules(some)
		m, p := build(t, l...), plainOf(l)
		other := build(t, l...)
		start, run, step := m.Start(), m.Run("ab"), m.Step(p.start, 'a')
		empty := m.Run("")
		spoil(m.Start())
		spoil(m.Run("ab"))
		spoil(m.Run(""))
		spoil(m.Step(p.start, 'a'))
		for i := range m.Ones() {
			kept := m.After(i)
			spoil(m.After(i))
			is(t, "After", kept, p.behind[i])
		}
		is(t, "Start", start, p.start)
		is(t, "Run", run, p.run("ab"))
		is(t, "Run of nothing", empty, p.start)
		is(t, "Step", step, p.step(p.start, 'a'))
		checkAll(t, m, p)
		checkAll(t, other, p)
		_ = append(start.Ones, slices.Repeat(ones(-1), cap(start.Ones)-len(start.Ones))...)
		is(t, "the other list", start, p.start)
		rules := slices.Clone(start.Rules)
		spoil(api.Front{Ones: start.Ones})
		if !slices.Equal(start.Rules, rules) {
			t.Errorf("two lists of one front share memory")
		}
	}
}

// TestFrontStays: a front that was given stays as it was, with its spare room, and isn't kept.
func TestFrontStays(t *testing.T) {
	m := build(t, read(t, "a*b", "a", "[ab]c")...)
	room := ones(3, -1, 2, 3, 99, 0, 77, 78)
	rules := ones(2, 0, 1, 55)
	f := api.Front{Ones: room[:6], Rules: rules[:3]}
	g := m.Step(f, 'a')
	want := front(ones(0, 1, 4), 1)
	is(t, "Step", g, want)
	if r, ok := Rule(f); r != 0 || !ok || Dead(f) {
		t.Errorf("Rule %d", r)
	}
	if !slices.Equal(room, ones(3, -1, 2, 3, 99, 0, 77, 78)) || !slices.Equal(rules, ones(2, 0, 1, 55)) {
		t.Errorf("became %v, %v", room, rules)
	}
	clear(room)
	clear(rules)
	is(t, "Step, later", g, want)
	is(t, "the same Step again", m.Step(m.Start(), 'a'), want)
}

// TestTwoMachines: machines of other rules, and calls in any order, don't change what one answers.
func TestTwoMachines(t *testing.T) {
	some := rand.New(rand.NewSource(78))
	for range 300 {
		l, k := randomRules(some), randomRules(some)
		m, n := build(t, l...), build(t, k...)
		for range 10 {
			m.Step(n.Start(), 'a')
			n.Step(m.Run("a"), 'b')
			n.After(some.Intn(9))
			m.Run("ba")
		}
		checkAll(t, m, plainOf(l))
		checkAll(t, n, plainOf(k))
	}
}
