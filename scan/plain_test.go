package scan

import (
	"math"
	"math/rand"
	"slices"
	"strconv"
	"strings"
	"testing"

	"pleacher/api"
	"pleacher/dfa"
	"pleacher/nfa"
	"pleacher/regex"
)

// This file has the chapter's words as they stand, read another way than the package does: each beginning is a text of its own, which the table reads anew.

// plainNext is the piece from a place of a text on: the longest of all beginnings that have a rule, and the shortest behind which there is no state.
func plainNext(d api.Dfa, s string, at int) api.Lex {
	x := api.Lex{Rule: -1, From: at, To: at, Seen: len(s) + 1}
	for to := len(s); to > at; to-- {
		k := dfa.Run(d, s[at:to])
		if k < 0 {
			x.Seen = to
		}
		if r, ok := dfa.Rule(d, k); ok && x.Rule < 0 {
			x.Rule, x.To = r, to
		}
	}
	return x
}

// plainAll are the pieces of a text, and the place where they end.
func plainAll(d api.Dfa, s string) ([]api.Lex, int) {
	x := plainNext(d, s, 0)
	if x.Rule < 0 {
		return nil, 0
	}
	l := []api.Lex{x}
	for {
		last := l[len(l)-1].To
		if x = plainNext(d, s, last); x.Rule < 0 {
			return l, last
		}
		l = append(l, x)
	}
}

// plainSame tells byte by byte whether two texts begin alike up to a place, or are the same.
func plainSame(s, t string, seen int) bool {
	if seen > len(s) && len(s) != len(t) {
		return false
	}
	for i := range min(max(seen, 0), len(s)) {
		if i >= len(t) || s[i] != t[i] {
			return false
		}
	}
	return true
}

// rulesOf are the expressions of some texts.
func rulesOf(t *testing.T, texts ...string) []api.Regex {
	t.Helper()
	var l []api.Regex
	for _, s := range texts {
		x, e := regex.Parse(s)
		if e != api.OK {
			t.Fatalf("%q: %d", s, e)
		}
		l = append(l, x)
	}
	return l
}

// build is the table of some rules' texts.
func build(t *testing.T, texts ...string) api.Dfa {
	t.Helper()
	m, e := nfa.Build(rulesOf(t, texts...)...)
	if e != api.OK {
		t.Fatalf("%q: %d", texts, e)
	}
	d, e := dfa.Build(m)
	if e != api.OK {
		t.Fatalf("%q: %d", texts, e)
	}
	return d
}

// edges are bytes that stand at the ends of what a byte may be, of signs' first bytes, and one between.
func edges() []byte { return []byte{0, 'a', 127, 128, 255} }

// handmade is a table as no machine has it: it has a state that isn't come to, one that doesn't live, two that could be one, and a start with a rule that is come to again.
func handmade() api.Dfa {
	d := api.Dfa{
		Next: [][]int{{1, 2, -1}, {-1, 0, 3}, {2, 2, -1}, {4, 3, 3}, {3, 4, 4}, {0, 0, 0}},
		Rule: []int{31, -1, -1, 5, 5, 0},
	}
	for _, c := range []byte{127, 128} {
		d.Class[c] = 1
	}
	d.Class[255] = 2
	return d
}

// states is a table of so many states, one behind the other, by whatever bytes; the last one has a rule.
func states(n int) api.Dfa {
	var d api.Dfa
	for i := range n {
		d.Next = append(d.Next, []int{i + 1})
		d.Rule = append(d.Rule, -1)
	}
	d.Next[n-1][0], d.Rule[n-1] = -1, 7
	return d
}

// someTable is a table that may be, of few states and classes.
func someTable(some *rand.Rand) api.Dfa {
	var d api.Dfa
	n, wide := 1+some.Intn(4), 1+some.Intn(3)
	for range n {
		rule := -1
		if some.Intn(2) == 0 {
			rule = some.Intn(api.MaxRules)
		}
		row := make([]int, wide)
		for i := range row {
			row[i] = some.Intn(n+1) - 1
		}
		d.Next, d.Rule = append(d.Next, row), append(d.Rule, rule)
	}
	for _, c := range edges() {
		d.Class[c] = byte(some.Intn(wide))
	}
	return d
}

// tables are such as may be, of all shapes.
func tables(t *testing.T, seed int64, count int) []api.Dfa {
	t.Helper()
	l := []api.Dfa{
		handmade(), states(1), states(2), states(500),
		{Next: [][]int{{-1}}, Rule: []int{-1}},
		{Next: [][]int{{0}}, Rule: []int{-1}},
		{Next: [][]int{{0}}, Rule: []int{0}},
		build(t, "a*b", "a"), build(t, "a*"), build(t, ""), build(t, ".", "\x00\x7f"), build(t, "a|aaa", "\x7f+"),
	}
	some := rand.New(rand.NewSource(seed))
	for range count {
		l = append(l, someTable(some))
	}
	for i, d := range l {
		if !dfa.Right(d) {
			t.Fatalf("table %d may not be", i)
		}
	}
	return l
}

// wrong are tables that may not be.
func wrong() map[string]api.Dfa {
	l := map[string]api.Dfa{
		"zero":                {},
		"empty lists":         {Next: [][]int{}, Rule: []int{}},
		"rules alone":         {Rule: []int{0}},
		"states alone":        {Next: [][]int{{0}}},
		"501 states":          states(501),
		"a row of nothing":    {Next: [][]int{{}}, Rule: []int{0}},
		"a row that is short": {Next: [][]int{{0, 0}, {0}}, Rule: []int{0, 0}},
		"a row that is long":  {Next: [][]int{{0}, {0, 0}}, Rule: []int{0, 0}},
		"a rule too few":      {Next: [][]int{{0}, {0}}, Rule: []int{0}},
		"a rule too many":     {Next: [][]int{{0}}, Rule: []int{0, 0}},
	}
	for _, k := range []int{-2, 1, 2, 500, math.MaxInt, math.MinInt} {
		l["no state "+strconv.Itoa(k)] = api.Dfa{Next: [][]int{{k}}, Rule: []int{0}}
	}
	for _, r := range []int{-2, 32, 33, math.MaxInt, math.MinInt} {
		l["no rule "+strconv.Itoa(r)] = api.Dfa{Next: [][]int{{0}}, Rule: []int{r}}
	}
	high := api.Dfa{Next: [][]int{{0}}, Rule: []int{0}}
	high.Class[200] = 1
	l["a class that is too high, of a byte that isn't met"] = high
	return l
}

// textsOf are all texts of at most so many of some bytes.
func textsOf(bytes []byte, most int) []string {
	texts := []string{""}
	from := 0
	for range most {
		end := len(texts)
		for _, s := range texts[from:end] {
			for _, c := range bytes {
				texts = append(texts, s+string([]byte{c}))
			}
		}
		from = end
	}
	return texts
}

// far are places that a text of n bytes hasn't.
func far(n int) []int {
	return []int{-1, -2, -n - 1, n + 1, n + 2, 2*n + 5, -4000, 4001, math.MaxInt32, math.MinInt32, math.MaxInt, math.MaxInt - 1, math.MinInt, math.MinInt + 1}
}

// roomy is a table of new memory, whose lists have spare room in which numbers stand.
func roomy(d api.Dfa) api.Dfa {
	e := api.Dfa{Class: d.Class, Rule: append(slices.Clone(d.Rule), 77, 78)[:len(d.Rule)]}
	e.Next = make([][]int, 0, len(d.Next)+1)
	for _, row := range d.Next {
		e.Next = append(e.Next, append(slices.Clone(row), 79, 80)[:len(row)])
	}
	e.Next = append(e.Next, []int{81})[:len(d.Next)]
	return e
}

// sameRoom tells whether two tables are the same, up to all that they have room for.
func sameRoom(d, e api.Dfa) bool {
	rows := func(x, y []int) bool { return slices.Equal(x[:len(x)+2], y[:len(y)+2]) }
	n := len(d.Next)
	return d.Class == e.Class && rows(d.Rule, e.Rule) && slices.EqualFunc(d.Next, e.Next, rows) && slices.Equal(d.Next[:n+1][n], e.Next[:n+1][n])
}

// cut is what pieces have of a text.
func cut(s string, l []api.Lex) []string {
	var parts []string
	for _, x := range l {
		parts = append(parts, s[x.From:x.To])
	}
	return parts
}

// joined is what parts are together.
func joined(parts []string) string { return strings.Join(parts, "") }
