package lalr

import (
	"math/rand"
	"slices"
	"sort"
	"strconv"
	"testing"

	"pleacher/api"
	"pleacher/lrzero"
	"pleacher/symbols"
)

// plain_test.go: the chapter's words worked out another way: sets of items with terms, gone through one by one, and put together by their items.

// rule makes a rule.
func rule(left int, right ...int) api.Rule {
	return api.Rule{Left: left, Right: right}
}

// syntax makes a syntax of so many terms, and others, whose first one is the start.
func syntax(terms, others int, rules ...api.Rule) api.Syntax {
	x := api.Syntax{Terms: terms, Start: terms + 1, Rules: rules}
	for i := range terms {
		x.Names = append(x.Names, "a"+strconv.Itoa(i))
		x.Of = append(x.Of, i)
		x.Class = append(x.Class, 0)
	}
	x.Names = append(x.Names, "")
	for i := range others {
		x.Names = append(x.Names, "s"+strconv.Itoa(i))
	}
	return x
}

// example is the chapter's first example: s: a s, a.
func example() api.Syntax {
	return syntax(1, 1, rule(2, 0, 2), rule(2, 0))
}

// twofold is the chapter's second example: e: e p e, n, where n is 0, p is 1.
func twofold() api.Syntax {
	return syntax(2, 1, rule(3, 3, 1, 3), rule(3, 0))
}

// sums is sums of products: s: s a0 t, t; t: t a1 u, u; u: a2 s a3, a4.
func sums() api.Syntax {
	return syntax(5, 3, rule(6, 6, 0, 7), rule(6, 7), rule(7, 7, 1, 8), rule(7, 8), rule(8, 2, 6, 3), rule(8, 4))
}

// hollow has rules without a right side, two of which may be taken at once: s: t u a0; t: nothing, t a1; u: nothing, t t.
func hollow() api.Syntax {
	return syntax(2, 3, rule(3, 4, 5, 0), rule(4), rule(4, 4, 1), rule(5), rule(5, 4, 4))
}

// optional has others that may be empty behind others: s: t u v; t: a0; u: nothing, a1; v: nothing, a2.
func optional() api.Syntax {
	return syntax(3, 4, rule(4, 5, 6, 7), rule(5, 0), rule(6), rule(6, 1), rule(7), rule(7, 2))
}

// ring has others that hang on each other in a ring: s: t; t: u a0, s; u: s a1, a2.
func ring() api.Syntax {
	return syntax(3, 3, rule(4, 5), rule(5, 6, 0), rule(5, 4), rule(6, 4, 1), rule(6, 2))
}

// round is a ring without a conflict: s: t a0, a3; t: u a1; u: s a2.
func round() api.Syntax {
	return syntax(4, 3, rule(5, 6, 0), rule(5, 3), rule(6, 7, 1), rule(7, 5, 2))
}

// sides is assignments, which Follow of the whole would give a conflict: s: l a0 r, r; l: a1 r, a2; r: l.
func sides() api.Syntax {
	return syntax(3, 3, rule(4, 5, 0, 6), rule(4, 6), rule(5, 1, 6), rule(5, 2), rule(6, 5))
}

// merged has a state that comes of two sets of items with terms: s: a0 t a2, a1 t a3; t: a4.
func merged() api.Syntax {
	return syntax(5, 2, rule(6, 0, 7, 2), rule(6, 1, 7, 3), rule(7, 4))
}

// crossed has a conflict only as sets of items with terms are put together: s: a0 t a2, a1 u a2, a0 u a3, a1 t a3; t: a4; u: a4.
func crossed() api.Syntax {
	return syntax(5, 3, rule(6, 0, 7, 2), rule(6, 1, 8, 2), rule(6, 0, 8, 3), rule(6, 1, 7, 3), rule(7, 4), rule(8, 4))
}

// cycle has an other that comes of itself, by two rules: s: s, s, a0.
func cycle() api.Syntax {
	return syntax(1, 1, rule(2, 2), rule(2, 2), rule(2, 0))
}

// three has three actions at a term: s: t a0, u a0, a1 a0; t: a1; u: a1.
func three() api.Syntax {
	return syntax(2, 3, rule(3, 4, 0), rule(3, 5, 0), rule(3, 1, 0), rule(4, 1), rule(5, 1))
}

// late has a start that is not the first other, rules out of order, and one rule twice.
func late() api.Syntax {
	x := syntax(2, 3, rule(5, 0), rule(3, 1, 5), rule(4, 5, 3), rule(5, 3), rule(4, 5, 3), rule(3))
	x.Start = 4
	return x
}

// crowd has as many terms as may be, the last of which stands ahead of the end: s: s a31, a0, and each other term alone.
func crowd() api.Syntax {
	x := syntax(32, 1, rule(33, 33, 31))
	for term := range 31 {
		x.Rules = append(x.Rules, rule(33, term))
	}
	return x
}

// clear is some syntaxes without a conflict.
func clear() []api.Syntax {
	return []api.Syntax{example(), sums(), optional(), round(), sides(), merged(), crowd()}
}

// ordinary is some syntaxes of all kinds.
func ordinary() []api.Syntax {
	return append(clear(), twofold(), hollow(), ring(), crossed(), cycle(), three(), late())
}

// randomSyntax is any syntax of some terms and others.
func randomSyntax(r *rand.Rand) api.Syntax {
	for {
		terms, others := 1+r.Intn(3), 1+r.Intn(4)
		var rules []api.Rule
		for i := range others + r.Intn(6) {
			left := terms + 1 + r.Intn(others)
			if i < others {
				left = terms + 1 + i
			}
			var right []int
			for range r.Intn(4) {
				sym := r.Intn(terms + others)
				if sym >= terms {
					sym++
				}
				right = append(right, sym)
			}
			rules = append(rules, rule(left, right...))
		}
		r.Shuffle(len(rules), func(i, j int) { rules[i], rules[j] = rules[j], rules[i] })
		x := syntax(terms, others, rules...)
		x.Start = terms + 1 + r.Intn(others)
		if symbols.Right(x) {
			return x
		}
	}
}

// some is the ordinary syntaxes, and so many random ones.
func some(n int) []api.Syntax {
	r := rand.New(rand.NewSource(13))
	l := ordinary()
	for range n {
		l = append(l, randomSyntax(r))
	}
	return l
}

// allRules is a syntax's rules, and the start's.
func allRules(x api.Syntax) []api.Rule {
	return append(slices.Clone(x.Rules), rule(-1, x.Start))
}

// termItem is an item with a term, or the end.
type termItem struct{ rule, dot, term int }

// comes is all that comes of each symbol with at most so many terms, as texts whose bytes are the terms.
func comes(x api.Syntax, most int) []map[string]bool {
	all := make([]map[string]bool, len(x.Names))
	for sym := range all {
		all[sym] = map[string]bool{}
		if sym < x.Terms {
			all[sym][string(rune(sym))] = true
		}
	}
	for turned := true; turned; {
		turned = false
		for _, r := range x.Rules {
			rows := map[string]bool{"": true}
			for _, sym := range r.Right {
				longer := map[string]bool{}
				for row := range rows {
					for part := range all[sym] {
						if len(row)+len(part) <= most {
							longer[row+part] = true
						}
					}
				}
				rows = longer
			}
			for row := range rows {
				turned = turned || !all[r.Left][row]
				all[r.Left][row] = true
			}
		}
	}
	return all
}

// plainBegins is the terms with which a row of symbols, and then a term, may begin.
func plainBegins(x api.Syntax, row []int, term int) map[int]bool {
	// A row's first symbol is put in by each of its rules, again and again, and what may be empty is left out, too.
	empty := comes(x, 0)
	first := map[int]bool{}
	seen := map[int]bool{}
	var look func(row []int) bool
	look = func(row []int) bool {
		for _, sym := range row {
			if sym < x.Terms {
				first[sym] = true
				return false
			}
			if !seen[sym] {
				seen[sym] = true
				for _, r := range x.Rules {
					if r.Left == sym {
						look(r.Right)
					}
				}
			}
			if !empty[sym][""] {
				return false
			}
		}
		return true
	}
	if look(row) {
		first[term] = true
	}
	return first
}

// plainCloser closes items with terms.
func plainCloser(x api.Syntax) func(kernel []termItem) []termItem {
	rules := allRules(x)
	known := map[termItem][]int{}
	begins := func(o termItem) []int {
		l, there := known[o]
		if !there {
			for term := range plainBegins(x, rules[o.rule].Right[o.dot+1:], o.term) {
				l = append(l, term)
			}
			known[o] = l
		}
		return l
	}
	return func(kernel []termItem) []termItem {
		in := map[termItem]bool{}
		work := slices.Clone(kernel)
		var l []termItem
		for len(work) > 0 {
			o := work[0]
			work = work[1:]
			if in[o] {
				continue
			}
			in[o] = true
			l = append(l, o)
			if o.dot == len(rules[o.rule].Right) || rules[o.rule].Right[o.dot] < x.Terms {
				continue
			}
			for n, r := range x.Rules {
				if r.Left == rules[o.rule].Right[o.dot] {
					for _, term := range begins(o) {
						work = append(work, termItem{n, 0, term})
					}
				}
			}
		}
		sort.Slice(l, func(i, j int) bool {
			return slices.Compare([]int{l[i].rule, l[i].dot, l[i].term}, []int{l[j].rule, l[j].dot, l[j].term}) < 0
		})
		return l
	}
}

// key is a text that no other set of items with terms has.
func key(set []termItem) string {
	s := ""
	for _, o := range set {
		s += string([]byte{byte(o.rule), byte(o.dot), byte(o.term)})
	}
	return s
}

// plainSets is all sets of items with terms, closed; nothing, if there are more than so many.
func plainSets(x api.Syntax, most int) [][]termItem {
	rules, closed := allRules(x), plainCloser(x)
	sets := [][]termItem{closed([]termItem{{len(x.Rules), 0, x.Terms}})}
	in := map[string]bool{key(sets[0]): true}
	for i := 0; i < len(sets); i++ {
		for sym := range x.Names {
			var kernel []termItem
			for _, o := range sets[i] {
				if o.dot < len(rules[o.rule].Right) && rules[o.rule].Right[o.dot] == sym {
					kernel = append(kernel, termItem{o.rule, o.dot + 1, o.term})
				}
			}
			if set := closed(kernel); len(set) > 0 && !in[key(set)] {
				in[key(set)] = true
				sets = append(sets, set)
			}
		}
		if len(sets) > most {
			return nil
		}
	}
	return sets
}

// bare is a set's items without their terms, each once.
func bare(set []termItem) []api.Item {
	var l []api.Item
	for _, o := range set {
		l = append(l, api.Item{Rule: o.rule, Dot: o.dot})
	}
	return slices.Compact(l)
}

// plainFollows is what may follow the rules that are read whole in each state, by their numbers.
func plainFollows(x api.Syntax, a api.Automaton, sets [][]termItem) []map[int][]int {
	all := make([]map[int][]int, len(a.Kernels))
	for k, kernel := range a.Kernels {
		all[k] = map[int][]int{}
		items := lrzero.Close(x, kernel...)
		for _, set := range sets {
			if !slices.Equal(bare(set), items) {
				continue
			}
			for _, o := range set {
				if o.dot == len(allRules(x)[o.rule].Right) && !slices.Contains(all[k][o.rule], o.term) {
					all[k][o.rule] = append(all[k][o.rule], o.term)
				}
			}
		}
		for _, l := range all[k] {
			slices.Sort(l)
		}
	}
	return all
}

// plainActions is what a state may do at a term, by what may follow.
func plainActions(x api.Syntax, a api.Automaton, follows []map[int][]int, k, term int) []api.Action {
	var l []api.Action
	if a.Next[k][term] != -1 {
		l = append(l, api.Action{Kind: api.Shift, N: a.Next[k][term]})
	}
	for n := range x.Rules {
		if slices.Contains(follows[k][n], term) {
			l = append(l, api.Action{Kind: api.Reduce, N: n})
		}
	}
	if term == x.Terms && len(follows[k][len(x.Rules)]) > 0 {
		l = append(l, api.Action{Kind: api.Accept})
	}
	return l
}

// plainTables is the conflicts and, where there is none, the tables.
func plainTables(x api.Syntax, a api.Automaton, follows []map[int][]int) ([]api.Conflict, api.Tables) {
	var l []api.Conflict
	t := api.Tables{Next: a.Next}
	for k := range a.Next {
		t.Action = append(t.Action, make([]api.Action, x.Terms+1))
		for term := range t.Action[k] {
			some := plainActions(x, a, follows, k, term)
			if len(some) > 1 {
				l = append(l, api.Conflict{State: k, Term: term, Actions: some})
			}
			if len(some) == 1 {
				t.Action[k][term] = some[0]
			}
		}
	}
	return l, t
}

// plainReads is what Accepts is to tell of tables that fit, and whether it is known behind so many actions: the way is kept as a chain, each state with those ahead of it.
func plainReads(x api.Syntax, t api.Tables, l []int, most int) (bool, bool) {
	type link struct {
		state int
		from  *link
	}
	at := &link{}
	for range most {
		term := x.Terms
		if len(l) > 0 {
			term = l[0]
		}
		act := t.Action[at.state][term]
		if act.Kind != api.Shift && act.Kind != api.Reduce {
			return act.Kind == api.Accept, true
		}
		if act.Kind == api.Shift {
			at = &link{act.N, at}
			l = l[min(1, len(l)):]
			continue
		}
		for range x.Rules[act.N].Right {
			if at = at.from; at == nil {
				return false, true
			}
		}
		if t.Next[at.state][x.Rules[act.N].Left] < 0 {
			return false, true
		}
		at = &link{t.Next[at.state][x.Rules[act.N].Left], at}
	}
	return false, false
}

// texts is all rows of terms of at most so many.
func texts(terms, most int) [][]int {
	l := [][]int{nil}
	for i := 0; i < len(l); i++ {
		if len(l[i]) < most {
			for term := range terms {
				l = append(l, append(slices.Clone(l[i]), term))
			}
		}
	}
	return l
}

// asText is a row of terms as comes has it.
func asText(l []int) string {
	s := ""
	for _, term := range l {
		s += string(rune(term))
	}
	return s
}

// automaton is the automaton of a syntax that has one.
func automaton(t *testing.T, x api.Syntax) api.Automaton {
	t.Helper()
	a, e := lrzero.Build(x)
	if e != api.OK {
		t.Fatal(e, x)
	}
	return a
}

// good is the tables of a syntax that has them.
func good(t *testing.T, x api.Syntax) api.Tables {
	t.Helper()
	tables, e := Build(x)
	if e != api.OK {
		t.Fatal(e, x)
	}
	return tables
}

// wrongs is syntaxes that may not be, each of which is the one that is given but for one thing.
func wrongs(good func() api.Syntax) map[string]api.Syntax {
	all := map[string]api.Syntax{"zero": {}}
	turn := func(name string, by func(x *api.Syntax)) {
		x := good()
		by(&x)
		all[name] = x
	}
	turn("no terms", func(x *api.Syntax) { x.Terms = 0 })
	turn("terms below 0", func(x *api.Syntax) { x.Terms = -1 })
	turn("too many terms", func(x *api.Syntax) { x.Terms = 33 })
	turn("start a term", func(x *api.Syntax) { x.Start = 0 })
	turn("start the end", func(x *api.Syntax) { x.Start = x.Terms })
	turn("start below 0", func(x *api.Syntax) { x.Start = -1 })
	turn("start too large", func(x *api.Syntax) { x.Start = len(x.Names) })
	turn("no rules", func(x *api.Syntax) { x.Rules = nil })
	turn("a class too few", func(x *api.Syntax) { x.Class = x.Class[1:] })
	turn("a wrong Of", func(x *api.Syntax) { x.Of[0] = x.Terms })
	turn("a left side that is a term", func(x *api.Syntax) { x.Rules[0].Left = 0 })
	turn("a left side that is the end", func(x *api.Syntax) { x.Rules[0].Left = x.Terms })
	turn("a left side below 0", func(x *api.Syntax) { x.Rules[0].Left = -1 })
	turn("a left side too large", func(x *api.Syntax) { x.Rules[0].Left = len(x.Names) })
	turn("the end in a right side", func(x *api.Syntax) { x.Rules[0].Right[0] = x.Terms })
	turn("a symbol below 0", func(x *api.Syntax) { x.Rules[0].Right[0] = -1 })
	turn("a symbol too large", func(x *api.Syntax) { x.Rules[0].Right[0] = len(x.Names) })
	turn("a right side too long", func(x *api.Syntax) { x.Rules[0].Right = make([]int, 9) })
	turn("an other without rules", func(x *api.Syntax) { x.Names = append(x.Names, "more") })
	turn("a list without numbers", func(x *api.Syntax) { x.Lists = [][]int{{}} })
	turn("a wrong delim", func(x *api.Syntax) { x.Delims = [][]int{{0, 0, 0, 0, 0}} })
	turn("a wrong hole", func(x *api.Syntax) { x.Holes = [][]int{{0, 0, 0}} })
	return all
}

// wide is a syntax of just so many states: each is one more symbol of some right side.
func wide(states int) api.Syntax {
	x := syntax(32, 1)
	states -= 2 // the state 0, and that behind the start
	for i := 0; states > 0; i++ {
		// The first 32 right sides share no beginning, each later one the first symbol with one of those.
		right := []int{i % 32, i / 32, 0, 0, 0, 0, 0, 0}
		if i < 32 {
			right[1] = 31
		}
		fresh := 8
		if i >= 32 {
			fresh = 7
		}
		if states < fresh {
			// What is left goes by the last symbols of one that is there.
			for range states {
				x.Rules = append(x.Rules, rule(33, 0, 31, 0, 0, 0, 0, 0, len(x.Rules)%31+1))
			}
			return x
		}
		x.Rules = append(x.Rules, rule(33, right...))
		states -= fresh
	}
	return x
}

// deep is a syntax that shares no memory with the one that is given.
func deep(x api.Syntax) api.Syntax {
	lists := func(l [][]int) [][]int {
		var c [][]int
		for _, s := range l {
			c = append(c, slices.Clone(s))
		}
		return c
	}
	c := x
	c.Names, c.Of, c.Class = slices.Clone(x.Names), slices.Clone(x.Of), slices.Clone(x.Class)
	c.Lists, c.Delims, c.Holes = lists(x.Lists), lists(x.Delims), lists(x.Holes)
	c.Rules = nil
	for _, r := range x.Rules {
		c.Rules = append(c.Rules, api.Rule{Left: r.Left, Right: slices.Clone(r.Right)})
	}
	return c
}

// copied is tables that share no memory with those that are given.
func copied(t api.Tables) api.Tables {
	var c api.Tables
	for _, row := range t.Action {
		c.Action = append(c.Action, slices.Clone(row))
	}
	for _, row := range t.Next {
		c.Next = append(c.Next, slices.Clone(row))
	}
	return c
}

// sameTables tells whether two tables are the same.
func sameTables(a, b api.Tables) bool {
	return slices.EqualFunc(a.Action, b.Action, slices.Equal) && slices.EqualFunc(a.Next, b.Next, slices.Equal)
}

// sameFollows tells whether two answers of Follows are the same; nil and empty are.
func sameFollows(a, b [][][]int) bool {
	return slices.EqualFunc(a, b, func(p, q [][]int) bool { return slices.EqualFunc(p, q, slices.Equal) })
}

// sameConflicts tells whether two lists of conflicts are the same.
func sameConflicts(a, b []api.Conflict) bool {
	return slices.EqualFunc(a, b, func(p, q api.Conflict) bool {
		return p.State == q.State && p.Term == q.Term && slices.Equal(p.Actions, q.Actions)
	})
}
