package symbols

import (
	"slices"

	"pleacher/api"
)

// lore is a syntax with what is found out of its symbols.
type lore struct {
	api.Syntax
	empty         []bool
	first, follow []terms
}

// other tells whether a number is an other's.
func (l *lore) other(sym int) bool {
	return sym > l.Terms && sym < len(l.Names)
}

// term tells whether a number is a term's.
func (l *lore) term(sym int) bool {
	return sym >= 0 && sym < l.Terms
}

// settle takes each rule by a step again and again, till the step turns nothing any more.
func (l *lore) settle(step func(api.Rule) bool) {
	var steps []func() bool
	for _, r := range l.Rules {
		steps = append(steps, func() bool { return step(r) })
	}
	for turned := true; turned; {
		turned = false
		for _, turns := range steps {
			turned = turns() || turned
		}
	}
}

// all tells whether all symbols of a right side are marked.
func all(marks []bool, right []int) bool {
	return !slices.ContainsFunc(right, func(sym int) bool { return !marks[sym] })
}

// climb marks, besides what is marked, each other that has a rule whose right side is marked.
func (l *lore) climb(marks []bool) {
	l.settle(func(r api.Rule) bool {
		if marks[r.Left] || !all(marks, r.Right) {
			return false
		}
		marks[r.Left] = true
		return true
	})
}

// spread marks, besides what is marked, all symbols of the right sides of others that are.
func (l *lore) spread(marks []bool) {
	l.settle(func(r api.Rule) bool {
		if !marks[r.Left] || all(marks, r.Right) {
			return false
		}
		for _, sym := range r.Right {
			marks[sym] = true
		}
		return true
	})
}

// findEmpty finds which symbols are empty-able.
func (l *lore) findEmpty() {
	l.empty = make([]bool, len(l.Names))
	l.climb(l.empty)
}

// begin is the terms with which what comes of a row of symbols may begin.
func (l *lore) begin(row []int) terms {
	var sets []terms
	for _, sym := range row {
		sets = append(sets, l.first[sym])
		if !l.empty[sym] {
			break
		}
	}
	return union(sets...)
}

// leads is a rule's step for First: its Left may begin as its right side does.
func (l *lore) leads(r api.Rule) bool {
	return l.first[r.Left].join(l.begin(r.Right))
}

// findFirst finds each symbol's First; it needs to know which are empty-able.
func (l *lore) findFirst() {
	l.first = make([]terms, len(l.Names))
	for sym := range l.Terms + 1 {
		l.first[sym] = only(sym)
	}
	l.settle(l.leads)
}

// behind is what may follow a rule's symbol of which this is the rest of the right side.
func (l *lore) behind(r api.Rule, rest []int) terms {
	if all(l.empty, rest) {
		return union(l.begin(rest), l.follow[r.Left])
	}
	return l.begin(rest)
}

// trails is a rule's step for Follow: behind each other of its right side there is what the rest begins with, and, if the rest may be empty, what is behind its Left.
func (l *lore) trails(r api.Rule) bool {
	turned := false
	for i, sym := range r.Right {
		if l.other(sym) {
			turned = l.follow[sym].join(l.behind(r, r.Right[i+1:])) || turned
		}
	}
	return turned
}

// findFollow finds each other's Follow; it needs the symbols' First.
func (l *lore) findFollow() {
	l.follow = make([]terms, len(l.Names))
	l.follow[l.Start] = only(l.Terms)
	l.settle(l.trails)
}
