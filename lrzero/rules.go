package lrzero

import (
	"cmp"
	"slices"

	"pleacher/api"
	"pleacher/symbols"
)

// rules is the rules of a syntax, the start's own one as the last.
type rules struct {
	rights [][]int // each rule's right side
	of     [][]int // each symbol's rules
}

// rulesOf is a syntax's rules: none, not even the start's, of one that may not be.
func rulesOf(x api.Syntax) rules {
	if !symbols.Right(x) {
		return rules{}
	}
	r := rules{of: make([][]int, len(x.Names))}
	for i, rule := range x.Rules {
		r.rights = append(r.rights, rule.Right)
		r.of[rule.Left] = append(r.of[rule.Left], i)
	}
	r.rights = append(r.rights, []int{x.Start})
	return r
}

// there tells whether there is an item.
func (r rules) there(o api.Item) bool {
	return o.Rule >= 0 && o.Rule < len(r.rights) && o.Dot >= 0 && o.Dot <= len(r.rights[o.Rule])
}

// whole tells whether an item that there is has read its right side.
func (r rules) whole(o api.Item) bool {
	return o.Dot == len(r.rights[o.Rule])
}

// behind is the symbol behind an item's Dot; -1, if there is none, or no such item.
func (r rules) behind(o api.Item) int {
	if !r.there(o) || r.whole(o) {
		return -1
	}
	return r.rights[o.Rule][o.Dot]
}

// begun is the items that a symbol brings with it: its rules, of which nothing is read.
func (r rules) begun(sym int) []api.Item {
	var l []api.Item
	if sym >= 0 {
		for _, rule := range r.of[sym] {
			l = append(l, api.Item{Rule: rule})
		}
	}
	return l
}

// closed is items closed, rising, without those that there aren't.
func (r rules) closed(items ...api.Item) []api.Item {
	var l []api.Item
	in := map[api.Item]int{}
	put := func(some ...api.Item) {
		for _, o := range some {
			if r.there(o) && in[o] == 0 {
				in[o]++
				l = append(l, o)
			}
		}
	}
	put(items...)
	for i := 0; i < len(l); i++ {
		put(r.begun(r.behind(l[i]))...)
	}
	slices.SortFunc(l, order)
	return l
}

// order tells which of two items comes first: by Rule, then Dot.
func order(o, p api.Item) int {
	return cmp.Or(cmp.Compare(o.Rule, p.Rule), cmp.Compare(o.Dot, p.Dot))
}

// steps is the kernel to which closed items come by each symbol.
func (r rules) steps(closed []api.Item) [][]api.Item {
	l := make([][]api.Item, len(r.of))
	for _, o := range closed {
		if sym := r.behind(o); sym >= 0 {
			// What is closed rises, and so does what of it is one Dot further.
			l[sym] = append(l[sym], api.Item{Rule: o.Rule, Dot: o.Dot + 1})
		}
	}
	return l
}
