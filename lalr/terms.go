package lalr

import "math/bits"

// terms is a set of terms, perhaps with the end: bit by bit, as there are at most api.MaxRules terms.
type terms uint64

// none is the set without a term.
const none terms = 0

// setOf is the set of some terms.
func setOf(some ...int) terms {
	set := none
	for _, term := range some {
		set |= 1 << term
	}
	return set
}

// union is what sets have together.
func union(sets ...terms) terms {
	all := none
	for _, t := range sets {
		all |= t
	}
	return all
}

// join puts sets into one, and tells whether that one grew.
func (t *terms) join(sets ...terms) bool {
	was := *t
	*t = union(was, union(sets...))
	return *t != was
}

// has tells whether a term is in a set.
func (t terms) has(term int) bool {
	return t&setOf(term) != none
}

// list is a set's terms, rising.
func (t terms) list() []int {
	var l []int
	for ; t != none; t &= t - 1 {
		l = append(l, bits.TrailingZeros64(uint64(t)))
	}
	return l
}
