package dfa

import (
	"slices"

	"pleacher/api"
	"pleacher/nfa"
)

// names gives numbers to texts, from 0 on: each text that is new the next one.
type names map[string]int

// number is a text's number.
func (n names) number(text string) int {
	k, met := n[text]
	if !met {
		k = len(n)
		n[text] = k
	}
	return k
}

// textOf is a text that is made of some numbers, and of no others. Two bytes tell each: all are from -1 on, and below MaxNodes.
func textOf(l []int) string {
	b := make([]byte, 0, 2*len(l))
	for _, k := range l {
		b = append(b, byte(k>>8), byte(k))
	}
	return string(b)
}

// front is one of a machine's, with the numbers of those that it comes to, class by class.
type front struct {
	api.Front
	next []int
}

// text is one that no other front has.
func (f front) text() string {
	return textOf(slices.Concat(f.Ones, []int{-1}, f.Rules))
}

// rule is a front's least rule; -1, if it has none.
func (f front) rule() int {
	if r, ok := nfa.Rule(f.Front); ok {
		return r
	}
	return -1
}

// none is the number of the front without Ones and rules. It stands among the others, so that those which don't live turn out to be like it.
const none = 0

// walk goes through all fronts of a machine, each being numbered by its text, and standing in the list by its number.
type walk struct {
	*nfa.Machine
	names
	by     []byte // a byte of each class
	fronts []front
	start  int
}

// meet is a front's number; a new one goes into the list.
func (w *walk) meet(f api.Front) int {
	met := front{Front: f}
	k := w.number(met.text())
	if k == len(w.fronts) {
		w.fronts = append(w.fronts, met)
	}
	return k
}

// all goes through all fronts; it gives up, and tells so, if there are more than MaxFront.
func (w *walk) all() bool {
	w.meet(api.Front{})
	w.start = w.meet(w.Start())
	for i := 0; i < len(w.fronts); i++ {
		next := make([]int, len(w.by))
		for k, c := range w.by {
			next[k] = w.meet(w.Step(w.fronts[i].Front, c))
		}
		w.fronts[i].next = next
		if len(w.fronts)-1 > api.MaxFront { // the one without Ones and rules is none of them
			return false
		}
	}
	return true
}

// alike has of each front the number of its part: alike ones are in one.
func (w *walk) alike() []int {
	part := make([]int, len(w.fronts))
	for i, f := range w.fronts {
		part[i] = f.rule()
	}
	split := func() int {
		met, finer := names{}, make([]int, len(part))
		for i, f := range w.fronts {
			seen := []int{part[i]}
			for _, k := range f.next {
				seen = append(seen, part[k])
			}
			finer[i] = met.number(textOf(seen))
		}
		part = finer
		return len(met)
	}
	// A split takes no parts together: where there are as many as before, they are the same.
	for before, now := 0, split(); now > before; {
		before, now = now, split()
	}
	return part
}

// table has Next and Rule: of a part that lives, one of its fronts tells what all of them come to.
func (w *walk) table() ([][]int, []int) {
	part := w.alike()
	numbers := map[int]int{part[w.start]: 0}
	states := []int{w.start}
	stateOf := func(k int) int {
		if part[k] == part[none] {
			return -1
		}
		number, met := numbers[part[k]]
		if !met {
			number = len(states)
			numbers[part[k]] = number
			states = append(states, k)
		}
		return number
	}
	var next [][]int
	var rule []int
	for i := 0; i < len(states); i++ {
		f := w.fronts[states[i]]
		row := make([]int, len(f.next))
		for class, k := range f.next {
			row[class] = stateOf(k)
		}
		next = append(next, row)
		rule = append(rule, f.rule())
	}
	return next, rule
}
