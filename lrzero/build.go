package lrzero

import (
	"slices"

	"pleacher/api"
)

// builder makes the automaton of the rules that it embeds.
type builder struct {
	rules
	made   api.Automaton
	number map[string]int // of each kernel's text
}

// text is a text that no other kernel has: rules and Dots are few enough to be bytes.
func text(kernel ...api.Item) string {
	var l []byte
	for _, o := range kernel {
		l = append(l, byte(o.Rule), byte(o.Dot))
	}
	return string(l)
}

// state is a kernel's number, the next one if it has none yet; -1 of the empty one.
func (b *builder) state(kernel []api.Item) int {
	if len(kernel) == 0 {
		return -1
	}
	key := text(kernel...)
	k, numbered := b.number[key]
	if !numbered {
		k = len(b.made.Kernels)
		b.number[key] = k
		b.made.Kernels = append(b.made.Kernels, kernel)
	}
	return k
}

// build makes the states, one behind the other, and tells whether there are no more than may be.
func (b *builder) build() bool {
	b.state([]api.Item{{Rule: len(b.rights) - 1}})
	for k := 0; k < len(b.made.Kernels); k++ {
		var row []int
		for _, kernel := range b.steps(b.closed(b.made.Kernels[k]...)) {
			row = append(row, b.state(kernel))
		}
		if len(b.made.Kernels) > api.MaxStates {
			return false
		}
		b.made.Next = append(b.made.Next, row)
	}
	return true
}

// same tells whether two automata are one and the same.
func same(a, b api.Automaton) bool {
	return slices.EqualFunc(a.Kernels, b.Kernels, slices.Equal) && slices.EqualFunc(a.Next, b.Next, slices.Equal)
}
