package symbols

import (
	"slices"

	"pleacher/api"
)

// sized tells whether a syntax has as many of each thing as may be.
func (l *lore) sized() bool {
	if l.Terms < 1 || l.Terms > api.MaxRules || len(l.Class) != l.Terms || len(l.Of) > api.MaxRules {
		return false
	}
	if len(l.Rules) < 1 || len(l.Rules) > api.MaxProds {
		return false
	}
	// An other without a rule is worth nothing, so no more names need be looked at.
	return len(l.Names) <= l.Terms+1+len(l.Rules)
}

// wrongSide tells whether no right side has a symbol.
func (l *lore) wrongSide(sym int) bool {
	return !l.term(sym) && !l.other(sym)
}

// wrongRule tells whether no syntax of these symbols has a rule.
func (l *lore) wrongRule(r api.Rule) bool {
	return !l.other(r.Left) || len(r.Right) > api.MaxRight || slices.ContainsFunc(r.Right, l.wrongSide)
}

// wrongOf tells whether a number is neither a term's nor that of what is skipped.
func (l *lore) wrongOf(term int) bool {
	return term != -1 && !l.term(term)
}

// numbered tells whether the numbers of a syntax, but the notes', are those of symbols of the right kind.
func (l *lore) numbered() bool {
	return l.other(l.Start) && !slices.ContainsFunc(l.Rules, l.wrongRule) && !slices.ContainsFunc(l.Of, l.wrongOf)
}

// useful tells whether each other is worth something, and is come to.
func (l *lore) useful() bool {
	worth, come := make([]bool, len(l.Names)), make([]bool, len(l.Names))
	for sym := range l.Terms {
		worth[sym] = true
	}
	come[l.Start] = true
	l.climb(worth)
	l.spread(come)
	others := l.Terms + 1
	return !slices.Contains(worth[others:], false) && !slices.Contains(come[others:], false)
}

// rulesOf is how many rules a symbol has.
func (l *lore) rulesOf(sym int) int {
	count := 0
	for _, r := range l.Rules {
		if r.Left == sym {
			count++
		}
	}
	return count
}

// says tells whether the rule of a number is of a symbol, and has a right side.
func (l *lore) says(rule, left int, right ...int) bool {
	if rule < 0 || rule >= len(l.Rules) {
		return false
	}
	return l.Rules[rule].Left == left && slices.Equal(l.Rules[rule].Right, right)
}

// wrongList tells whether numbers aren't a list's.
func (l *lore) wrongList(note []int) bool {
	if len(note) != 5 {
		return true
	}
	list, item, between, first, second := note[0], note[1], note[2], note[3], note[4]
	if item == list || l.rulesOf(list) != 2 {
		return true
	}
	if between == -1 {
		return !l.says(first, list) || !l.says(second, list, list, item)
	}
	return !l.term(between) || !l.says(first, list, item) || !l.says(second, list, list, between, item)
}

// wrongDelim tells whether numbers aren't a delim's.
func (l *lore) wrongDelim(note []int) bool {
	return len(note) != 5 || !l.says(note[0], note[1], note[2:]...) || !l.term(note[2]) || !l.other(note[3]) || !l.term(note[4])
}

// wrongHole tells whether numbers aren't a hole's.
func (l *lore) wrongHole(note []int) bool {
	return len(note) != 3 || !l.says(note[0], note[1], note[2]) || !l.term(note[2])
}

// noted tells whether all notes are as they must be.
func (l *lore) noted() bool {
	return !slices.ContainsFunc(l.Lists, l.wrongList) &&
		!slices.ContainsFunc(l.Delims, l.wrongDelim) &&
		!slices.ContainsFunc(l.Holes, l.wrongHole)
}
