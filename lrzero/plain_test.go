package lrzero

import (
	"math/rand"
	"slices"
	"strconv"
	"strings"
	"testing"

	"pleacher/api"
	"pleacher/symbols"
)

// plain_test.go: the chapter's words worked out another way: not state by state, but by what may stand ahead of an other.

// rule makes a rule.
func rule(left int, right ...int) api.Rule {
	return api.Rule{Left: left, Right: right}
}

// syntax makes a syntax of so many terms, a, b, c .., and others, s, t, u .., whose first one is the start.
func syntax(terms, others int, rules ...api.Rule) api.Syntax {
	x := api.Syntax{Terms: terms, Start: terms + 1, Rules: rules}
	for i := range terms {
		x.Names = append(x.Names, "a"+strconv.Itoa(i))
		x.Of = append(x.Of, i)
		x.Class = append(x.Class, 0)
	}
	x.Names = append(x.Names, "")
	for i := range others {
		x.Names = append(x.Names, "s"+strconv.Itoa(i))
	}
	return x
}

// example is the chapter's own: s: a s, a.
func example() api.Syntax {
	return syntax(1, 1, rule(2, 0, 2), rule(2, 0))
}

// sums is sums of products: s: s a0 t, t; t: t a1 u, u; u: a2 s a3, a4.
func sums() api.Syntax {
	return syntax(5, 3, rule(6, 6, 0, 7), rule(6, 7), rule(7, 7, 1, 8), rule(7, 8), rule(8, 2, 6, 3), rule(8, 4))
}

// hollow has rules without a right side: s: t u a0; t: nothing, t a1; u: nothing, t t.
func hollow() api.Syntax {
	return syntax(2, 3, rule(3, 4, 5, 0), rule(4), rule(4, 4, 1), rule(5), rule(5, 4, 4))
}

// ring has others that hang on each other in a ring: s: t; t: u a0, s; u: s a1, a2.
func ring() api.Syntax {
	return syntax(3, 3, rule(4, 5), rule(5, 6, 0), rule(5, 4), rule(6, 4, 1), rule(6, 2))
}

// late has a start that is not the first other, rules out of order, and one rule twice.
func late() api.Syntax {
	x := syntax(2, 3, rule(5, 0), rule(3, 1, 5), rule(4, 5, 3), rule(5, 3), rule(4, 5, 3), rule(3))
	x.Start = 4
	return x
}

// ordinary is some syntaxes of all kinds.
func ordinary() []api.Syntax {
	return []api.Syntax{example(), sums(), hollow(), ring(), late()}
}

// randomSyntax is any syntax of some terms and others.
func randomSyntax(r *rand.Rand) api.Syntax {
	for {
		terms, others := 1+r.Intn(3), 1+r.Intn(4)
		var rules []api.Rule
		for i := range others + r.Intn(9) {
			left := terms + 1 + r.Intn(others)
			if i < others {
				left = terms + 1 + i
			}
			var right []int
			for range r.Intn(4) {
				sym := r.Intn(terms + others)
				if sym >= terms {
					sym++
				}
				right = append(right, sym)
			}
			rules = append(rules, rule(left, right...))
		}
		r.Shuffle(len(rules), func(i, j int) { rules[i], rules[j] = rules[j], rules[i] })
		x := syntax(terms, others, rules...)
		x.Start = terms + 1 + r.Intn(others)
		if symbols.Right(x) {
			return x
		}
	}
}

// allRules is a syntax's rules, and the start's.
func allRules(x api.Syntax) []api.Rule {
	return append(slices.Clone(x.Rules), rule(-1, x.Start))
}

// ahead tells of each other, and each number up to the row's length, whether so much of the row, and then that other, begin what the start comes to by putting in the last other.
func ahead(x api.Syntax, row []int) map[[2]int]bool {
	marks := map[[2]int]bool{{-1, 0}: true}
	for turned := true; turned; {
		turned = false
		for _, r := range allRules(x) {
			for from := 0; from <= len(row); from++ {
				if !marks[[2]int{r.Left, from}] {
					continue
				}
				for i, sym := range r.Right {
					if i > 0 && (from+i > len(row) || row[from+i-1] != r.Right[i-1]) {
						break
					}
					if at := [2]int{sym, from + i}; sym > x.Terms && !marks[at] {
						marks[at] = true
						turned = true
					}
				}
			}
		}
	}
	return marks
}

// plainItems is the items that are under way behind a row of symbols, by Rule, then Dot.
func plainItems(x api.Syntax, row []int) []api.Item {
	marks := ahead(x, row)
	var l []api.Item
	for n, r := range allRules(x) {
		for dot := 0; dot <= len(r.Right) && dot <= len(row); dot++ {
			from := len(row) - dot
			if marks[[2]int{r.Left, from}] && slices.Equal(row[from:], r.Right[:dot]) {
				l = append(l, api.Item{Rule: n, Dot: dot})
			}
		}
	}
	return l
}

// plainKernel is those items that begin a state: what is closed brings the others.
func plainKernel(x api.Syntax, row []int) []api.Item {
	var l []api.Item
	for _, o := range plainItems(x, row) {
		if o.Dot > 0 || o.Rule == len(x.Rules) {
			l = append(l, o)
		}
	}
	return l
}

// plainDone is the rules that are read whole behind a row of symbols.
func plainDone(x api.Syntax, row []int) []int {
	var l []int
	for _, o := range plainItems(x, row) {
		if o.Dot == len(allRules(x)[o.Rule].Right) {
			l = append(l, o.Rule)
		}
	}
	return l
}

// plainBuild is the automaton, found by a row that leads to each state, and those rows.
func plainBuild(x api.Syntax) (api.Automaton, [][]int) {
	a := api.Automaton{Kernels: [][]api.Item{plainKernel(x, nil)}}
	rows := [][]int{nil}
	for k := 0; k < len(rows); k++ {
		var next []int
		for sym := range x.Names {
			row := append(slices.Clone(rows[k]), sym)
			kernel := plainKernel(x, row)
			if len(kernel) == 0 {
				next = append(next, -1)
				continue
			}
			at := slices.IndexFunc(a.Kernels, func(l []api.Item) bool { return slices.Equal(l, kernel) })
			if at < 0 {
				at = len(rows)
				rows = append(rows, row)
				a.Kernels = append(a.Kernels, kernel)
			}
			next = append(next, at)
		}
		a.Next = append(a.Next, next)
	}
	return a, rows
}

// plainClose is items closed, by going over all rules again and again.
func plainClose(x api.Syntax, items ...api.Item) []api.Item {
	rules := allRules(x)
	in := map[api.Item]bool{}
	for _, o := range items {
		if o.Rule >= 0 && o.Rule < len(rules) && o.Dot >= 0 && o.Dot <= len(rules[o.Rule].Right) {
			in[o] = true
		}
	}
	for turned := true; turned; {
		turned = false
		for n, r := range rules {
			for o := range in {
				right := rules[o.Rule].Right
				if o.Dot < len(right) && right[o.Dot] == r.Left && !in[api.Item{Rule: n}] {
					turned = true
					in[api.Item{Rule: n}] = true
				}
			}
		}
	}
	var l []api.Item
	for n, r := range rules {
		for dot := 0; dot <= len(r.Right); dot++ {
			if in[api.Item{Rule: n, Dot: dot}] {
				l = append(l, api.Item{Rule: n, Dot: dot})
			}
		}
	}
	return l
}

// show is an automaton as a text, for what a test tells.
func show(a api.Automaton) string {
	var l []string
	for k, kernel := range a.Kernels {
		line := strconv.Itoa(k) + ":"
		for _, o := range kernel {
			line += " " + strconv.Itoa(o.Rule) + "." + strconv.Itoa(o.Dot)
		}
		if k < len(a.Next) {
			line += " >"
			for _, to := range a.Next[k] {
				line += " " + strconv.Itoa(to)
			}
		}
		l = append(l, line)
	}
	return strings.Join(l, "; ")
}

// plainSame tells whether two automata are the same.
func plainSame(a, b api.Automaton) bool {
	return show(a) == show(b) && len(a.Next) == len(b.Next)
}

// good is the automaton of a syntax that has one.
func good(t *testing.T, x api.Syntax) api.Automaton {
	t.Helper()
	a, e := Build(x)
	if e != api.OK {
		t.Fatalf("Build: %d of %v", e, x)
	}
	return a
}

// run is the state to which a row of symbols leads, -1 if to none.
func run(a api.Automaton, row []int) int {
	k := 0
	for _, sym := range row {
		if k = a.Next[k][sym]; k < 0 {
			return -1
		}
	}
	return k
}

// wrongs is syntaxes that may not be, each of which is the one that is given but for one thing.
func wrongs(good func() api.Syntax) map[string]api.Syntax {
	all := map[string]api.Syntax{"zero": {}}
	turn := func(name string, by func(x *api.Syntax)) {
		x := good()
		by(&x)
		all[name] = x
	}
	turn("no terms", func(x *api.Syntax) { x.Terms = 0 })
	turn("terms below 0", func(x *api.Syntax) { x.Terms = -1 })
	turn("too many terms", func(x *api.Syntax) { x.Terms = 33 })
	turn("start a term", func(x *api.Syntax) { x.Start = 0 })
	turn("start the end", func(x *api.Syntax) { x.Start = x.Terms })
	turn("start below 0", func(x *api.Syntax) { x.Start = -1 })
	turn("start too large", func(x *api.Syntax) { x.Start = len(x.Names) })
	turn("no rules", func(x *api.Syntax) { x.Rules = nil })
	turn("a class too few", func(x *api.Syntax) { x.Class = x.Class[1:] })
	turn("a wrong Of", func(x *api.Syntax) { x.Of[0] = x.Terms })
	turn("a left side that is a term", func(x *api.Syntax) { x.Rules[0].Left = 0 })
	turn("a left side below 0", func(x *api.Syntax) { x.Rules[0].Left = -1 })
	turn("a left side too large", func(x *api.Syntax) { x.Rules[0].Left = len(x.Names) })
	turn("the end in a right side", func(x *api.Syntax) { x.Rules[0].Right[0] = x.Terms })
	turn("a symbol below 0", func(x *api.Syntax) { x.Rules[0].Right[0] = -1 })
	turn("a symbol too large", func(x *api.Syntax) { x.Rules[0].Right[0] = len(x.Names) })
	turn("a right side too long", func(x *api.Syntax) { x.Rules[0].Right = make([]int, 9) })
	turn("an other without rules", func(x *api.Syntax) { x.Names = append(x.Names, "more") })
	turn("a list without numbers", func(x *api.Syntax) { x.Lists = [][]int{{}} })
	turn("a wrong delim", func(x *api.Syntax) { x.Delims = [][]int{{0, 0, 0, 0, 0}} })
	turn("a wrong hole", func(x *api.Syntax) { x.Holes = [][]int{{0, 0, 0}} })
	return all
}
