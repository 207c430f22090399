package lalr

import (
	"slices"

	"pleacher/api"
	"pleacher/symbols"
)

// maxActions is how many actions a text's reading may take.
const maxActions = 1 << 20

// Right tells whether tables fit a syntax that may be.
func Right(x api.Syntax, t api.Tables) bool {
	if !symbols.Right(x) || len(t.Next) == 0 || len(t.Action) != len(t.Next) {
		return false
	}
	wrongAction := func(a api.Action) bool { return !actionFits(x, t, a) }
	wrongState := func(k int) bool { return k < -1 || k >= len(t.Next) }
	for k, row := range t.Next {
		if len(t.Action[k]) != x.Terms+1 || slices.ContainsFunc(t.Action[k], wrongAction) {
			return false
		}
		if len(row) != len(x.Names) || slices.ContainsFunc(row, wrongState) {
			return false
		}
	}
	return true
}

// actionFits tells whether tables of a syntax may have an action.
func actionFits(x api.Syntax, t api.Tables, a api.Action) bool {
	switch a.Kind {
	case api.Shift:
		return a.N >= 0 && a.N < len(t.Next)
	case api.Reduce:
		return a.N >= 0 && a.N < len(x.Rules)
	}
	return a.Kind <= api.Accept && a.N == 0
}

// Accepts tells whether tables that fit read these terms, and then the end.
func Accepts(x api.Syntax, t api.Tables, l []int) bool {
	return Right(x, t) && areTerms(x, l...) && reads(x, t, l)
}

// areTerms tells whether numbers are terms'.
func areTerms(x api.Syntax, l ...int) bool {
	return !slices.ContainsFunc(l, func(term int) bool { return term < 0 || term >= x.Terms })
}

// reader reads terms by tables of a syntax.
type reader struct {
	api.Syntax
	api.Tables
	way  []int // the states that were gone through and not taken back, the state 0 first
	left []int // the terms that aren't read yet
}

// action is what is to be done next; behind the last term the end stays ahead.
func (r *reader) action() api.Action {
	row := r.Action[r.way[len(r.way)-1]]
	if len(r.left) == 0 {
		return row[r.Terms]
	}
	return row[r.left[0]]
}

// shift goes to a state by the term that is ahead.
func (r *reader) shift(k int) {
	r.way = append(r.way, k)
	if len(r.left) > 0 {
		r.left = r.left[1:]
	}
}

// reduce takes a rule back, and tells whether there is a way on from there.
func (r *reader) reduce(rule api.Rule) bool {
	rest := len(r.way) - len(rule.Right)
	if rest < 1 {
		return false
	}
	k := r.Next[r.way[rest-1]][rule.Left]
	r.way = append(r.way[:rest], k)
	return k >= 0
}

// step does an action, and tells whether there is a way on.
func (r *reader) step(a api.Action) bool {
	switch a.Kind {
	case api.Shift:
		r.shift(a.N)
		return true
	case api.Reduce:
		return r.reduce(r.Rules[a.N])
	}
	return false
}

// reads tells whether tables that fit read terms, and then the end, by no more actions than may be.
func reads(x api.Syntax, t api.Tables, l []int) bool {
	r := &reader{Syntax: x, Tables: t, way: []int{0}, left: l}
	for range maxActions {
		a := r.action()
		if a.Kind == api.Accept {
			return true
		}
		if !r.step(a) {
			return false
		}
	}
	return false
}
