package symbols

import "math/bits"

// terms is a set of terms, perhaps with the end: bit by bit, as there are at most api.MaxRules terms.
type terms uint64

// only is the set of one term.
func only(term int) terms {
	return 1 << term
}

// union is what sets have together.
func union(sets ...terms) terms {
	var all terms
	for _, t := range sets {
		all |= t
	}
	return all
}

// join puts sets into one, and tells whether that one grew.
func (t *terms) join(sets ...terms) bool {
	was := *t
	*t = union(was, union(sets...))
	return *t != was
}

// list is a set's terms, rising.
func (t terms) list() []int {
	var l []int
	for ; t != 0; t &= t - 1 {
		l = append(l, bits.TrailingZeros64(uint64(t)))
	}
	return l
}

// lists is each set's terms.
func lists(sets ...terms) [][]int {
	l := make([][]int, 0, len(sets))
	for _, t := range sets {
		l = append(l, t.list())
	}
	return l
}
