package lalr

import (
	"pleacher/api"
	"pleacher/lrzero"
	"pleacher/symbols"
)

// look is what may follow in the states of a syntax's automaton; it embeds both.
//
// Items that begin in a state with rules of one other have the same terms, and take them along to where they are read whole: so it is enough to know of each state what may stand behind each other that begins there.
type look struct {
	api.Syntax
	api.Automaton
	rules  []api.Rule // the start's own one is the last
	of     [][]int    // each symbol's rules
	empty  []bool
	first  []terms
	behind [][]terms // of each state and symbol: what may stand behind it; nothing, if none of its rules begins there
	whole  [][]terms // of each state and rule: what may follow it; nothing, if it isn't read whole there
}

// lookAt finds out what may follow in a syntax, or which error lrzero.Build has.
func lookAt(x api.Syntax) (*look, api.Errno) {
	a, e := lrzero.Build(x)
	if e != api.OK {
		return nil, e
	}
	l := &look{Syntax: x, Automaton: a, empty: symbols.Empty(x)}
	for _, some := range symbols.First(x) {
		l.first = append(l.first, setOf(some...))
	}
	l.number()
	for range l.Next {
		l.behind = append(l.behind, make([]terms, len(l.Names)))
		l.whole = append(l.whole, make([]terms, len(l.rules)))
	}
	l.spread()
	l.gather()
	return l, api.OK
}

// number gives each symbol its rules, and the end, which has none of its own, the start's.
func (l *look) number() {
	l.rules = append(l.rules, l.Rules...)
	l.rules = append(l.rules, api.Rule{Left: l.Terms, Right: []int{l.Start}})
	l.of = make([][]int, len(l.Names))
	for n, r := range l.rules {
		l.of[r.Left] = append(l.of[r.Left], n)
	}
}

// way is the states that a row of symbols leads through, from a state on, which is the first of them.
func (l *look) way(k int, row ...int) []int {
	all := []int{k}
	for _, sym := range row {
		k = l.Next[k][sym]
		all = append(all, k)
	}
	return all
}

// begin is the terms with which what comes of a row of symbols may begin, and whether all of it may be empty.
func (l *look) begin(row ...int) (terms, bool) {
	var sets []terms
	for _, sym := range row {
		sets = append(sets, l.first[sym])
		if !l.empty[sym] {
			return union(sets...), false
		}
	}
	return union(sets...), true
}

// lead tells of each symbol of a rule that begins in a state where it begins, and what may stand behind it.
func (l *look) lead(k int, r api.Rule, tell func(k, sym int, sets ...terms)) {
	way := l.way(k, r.Right...)
	for i, sym := range r.Right {
		begins, empty := l.begin(r.Right[i+1:]...)
		if empty {
			tell(way[i], sym, begins, l.behind[k][r.Left])
		} else {
			tell(way[i], sym, begins)
		}
	}
}

// spread finds what may stand behind the symbols in each state: what has turned is gone on from, till nothing turns.
func (l *look) spread() {
	var turned [][2]int // states, and symbols that begin there
	put := func(k, sym int, sets ...terms) {
		if l.behind[k][sym].join(sets...) {
			turned = append(turned, [2]int{k, sym})
		}
	}
	put(0, l.Terms, setOf(l.Terms))
	for len(turned) > 0 {
		k, sym := turned[len(turned)-1][0], turned[len(turned)-1][1]
		turned = turned[:len(turned)-1]
		for _, n := range l.of[sym] {
			l.lead(k, l.rules[n], put)
		}
	}
}

// gather finds what may follow the rules: what may stand behind their Lefts where they begin.
func (l *look) gather() {
	for k, row := range l.behind {
		for n, r := range l.rules {
			if row[r.Left] != none {
				way := l.way(k, r.Right...)
				l.whole[way[len(r.Right)]][n].join(row[r.Left])
			}
		}
	}
}

// actions is what a state may do at a term, or at the end.
func (l *look) actions(k, term int) []api.Action {
	var all []api.Action
	if to := l.Next[k][term]; to >= 0 {
		all = append(all, api.Action{Kind: api.Shift, N: to})
	}
	for n, set := range l.whole[k] {
		if set.has(term) {
			all = append(all, l.taken(n))
		}
	}
	return all
}

// taken is the action by which a rule that is read whole is taken back.
func (l *look) taken(n int) api.Action {
	if n == len(l.Rules) {
		return api.Action{Kind: api.Accept}
	}
	return api.Action{Kind: api.Reduce, N: n}
}
