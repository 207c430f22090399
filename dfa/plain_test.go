package dfa

import (
	"math/rand"
	"slices"
	"strconv"
	"strings"

	"pleacher/api"
	"pleacher/bytesets"
	"pleacher/nfa"
)

// This file has the chapter's words as they stand, read another way than the package does: fronts are held against each other one by one, by all 256 bytes; those that live are gathered from the rules backward; pairs of fronts that are unlike are marked, not parts split.

// plain is what is told of a machine: its fronts, where each comes to by each byte (-1: to none), and the least rules (-1: none).
type plain struct {
	fronts []api.Front
	to     [][256]int
	rule   []int
	live   []bool
	unlike [][]bool
}

// plainOf goes through the fronts of a machine; it gives up above so many.
func plainOf(m *nfa.Machine, most int) *plain {
	p := &plain{}
	p.add(m.Start())
	for i := 0; i < len(p.fronts) && len(p.fronts) <= most; i++ {
		for c := range 256 {
			p.to[i][c] = -1
			if f := m.Step(p.fronts[i], byte(c)); len(f.Ones)+len(f.Rules) > 0 {
				to := p.find(f)
				if to < 0 {
					to = p.add(f)
				}
				p.to[i][c] = to
			}
		}
	}
	return p
}

// find is where a front stands; -1, if it doesn't.
func (p *plain) find(f api.Front) int {
	return slices.IndexFunc(p.fronts, func(g api.Front) bool {
		return slices.Equal(f.Ones, g.Ones) && slices.Equal(f.Rules, g.Rules)
	})
}

// add puts a front behind the others, and tells where.
func (p *plain) add(f api.Front) int {
	p.fronts = append(p.fronts, f)
	p.to = append(p.to, [256]int{})
	rule := -1
	for _, r := range f.Rules {
		if rule < 0 || r < rule {
			rule = r
		}
	}
	p.rule = append(p.rule, rule)
	return len(p.fronts) - 1
}

// seeLive marks the fronts that live.
func (p *plain) seeLive() {
	p.live = make([]bool, len(p.fronts))
	for turns := true; turns; {
		turns = false
		for i := range p.fronts {
			lives := p.rule[i] >= 0 || slices.ContainsFunc(p.to[i][:], func(k int) bool { return k >= 0 && p.live[k] })
			if lives && !p.live[i] {
				p.live[i], turns = true, true
			}
		}
	}
}

// apart tells whether two places, -1 being none, are known to be unlike.
func (p *plain) apart(i, j int) bool {
	if i < 0 && j < 0 {
		return false
	}
	if i < 0 {
		return p.live[j]
	}
	if j < 0 {
		return p.live[i]
	}
	return p.unlike[i][j]
}

// seeUnlike marks the pairs of fronts that are unlike.
func (p *plain) seeUnlike() {
	for range p.fronts {
		p.unlike = append(p.unlike, make([]bool, len(p.fronts)))
	}
	for turns := true; turns; {
		turns = false
		for i := range p.fronts {
			for j := range i {
				if p.unlike[i][j] {
					continue
				}
				is := p.rule[i] != p.rule[j]
				for c := 0; c < 256 && !is; c++ {
					is = p.apart(p.to[i][c], p.to[j][c])
				}
				if is {
					p.unlike[i][j], p.unlike[j][i], turns = true, true, true
				}
			}
		}
	}
}

// classesOf has each byte's class, by which sets have it.
func classesOf(sets []api.Set) [256]byte {
	var class [256]byte
	count := 0
	for c := range 256 {
		same := slices.IndexFunc(firstBytes(c), func(b byte) bool {
			return !slices.ContainsFunc(sets, func(s api.Set) bool { return holds(s, b) != holds(s, byte(c)) })
		})
		if same >= 0 {
			class[c] = class[same]
		} else {
			class[c] = byte(count)
			count++
		}
	}
	return class
}

// firstBytes are the bytes below n, rising.
func firstBytes(n int) []byte {
	var l []byte
	for c := range n {
		l = append(l, byte(c))
	}
	return l
}

// setsOf are the sets of all Ones of a machine.
func setsOf(m *nfa.Machine) []api.Set {
	var l []api.Set
	for i := range m.Ones() {
		l = append(l, m.Set(i))
	}
	return l
}

// tableOf is the table of a machine.
func tableOf(m *nfa.Machine) api.Dfa {
	p := plainOf(m, 500)
	p.seeLive()
	p.seeUnlike()
	d := api.Dfa{Class: classesOf(setsOf(m))}
	var states []int // of each state a front
	state := func(k int) int {
		if k < 0 || !p.live[k] {
			return -1
		}
		at := slices.IndexFunc(states, func(i int) bool { return !p.unlike[i][k] })
		if at < 0 {
			at = len(states)
			states = append(states, k)
		}
		return at
	}
	states = append(states, 0)
	for i := 0; i < len(states); i++ {
		var row []int
		for class := 0; class <= int(slices.Max(d.Class[:])); class++ {
			c := slices.Index(d.Class[:], byte(class))
			row = append(row, state(p.to[states[i]][c]))
		}
		d.Next = append(d.Next, row)
		d.Rule = append(d.Rule, p.rule[states[i]])
	}
	return d
}

// sameTable tells whether two tables are the same.
func sameTable(d, e api.Dfa) bool {
	return d.Class == e.Class && slices.EqualFunc(d.Next, e.Next, slices.Equal[[]int]) && slices.Equal(d.Rule, e.Rule)
}

// copyOf is a table of new memory.
func copyOf(d api.Dfa) api.Dfa {
	e := api.Dfa{Class: d.Class, Rule: slices.Clone(d.Rule)}
	for _, row := range d.Next {
		e.Next = append(e.Next, slices.Clone(row))
	}
	return e
}

// set is the set of some bytes.
func set(b ...byte) api.Set { return bytesets.Of(b...) }

// holds tells whether a set has a byte.
func holds(s api.Set, c byte) bool { return s[c/64]>>(c%64)&1 == 1 }

func oneOf(b ...byte) api.Regex        { return api.Regex{Kind: api.One, Set: set(b...)} }
func catOf(l ...api.Regex) api.Regex   { return api.Regex{Kind: api.Cat, Kids: l} }
func altOf(l ...api.Regex) api.Regex   { return api.Regex{Kind: api.Alt, Kids: l} }
func starOf(x api.Regex) api.Regex     { return api.Regex{Kind: api.Star, Kids: []api.Regex{x}} }
func nilOf() api.Regex                 { return api.Regex{Kind: api.Nil} }
func a() api.Regex                     { return oneOf('a') }
func b() api.Regex                     { return oneOf('b') }
func nothing() api.Regex               { return api.Regex{Kind: api.One} }
func every() api.Regex                 { return api.Regex{Kind: api.One, Set: bytesets.All()} }
func rowOf(n int, c byte) api.Regex    { return catOf(slices.Repeat([]api.Regex{oneOf(c)}, n)...) }
func deadEnd(l ...api.Regex) api.Regex { return catOf(append(l, altOf())...) }

// show is an expression as a text.
func show(x api.Regex) string {
	var l []string
	for _, k := range x.Kids {
		l = append(l, show(k))
	}
	name := []string{"nil", "one", "cat", "alt", "star"}[x.Kind]
	if x.Kind == api.One {
		for c := range 256 {
			if holds(x.Set, byte(c)) {
				name += strconv.QuoteToASCII(string([]byte{byte(c)}))
			}
		}
	}
	return name + "(" + strings.Join(l, " ") + ")"
}

// showAll are some expressions as a text.
func showAll(l []api.Regex) string { return show(catOf(l...)) }

// randomRegex is an expression at most so deep, of all kinds, with all edges.
func randomRegex(some *rand.Rand, deep int) api.Regex {
	kind := some.Intn(9)
	if deep <= 1 && kind > 4 {
		kind = some.Intn(5)
	}
	switch kind {
	case 0:
		return nilOf()
	case 1:
		if some.Intn(4) == 0 {
			return nothing()
		}
		return a()
	case 2, 3, 4:
		sets := []api.Regex{a(), b(), oneOf('a', 'b'), oneOf(0, 127, 128, 255), oneOf(255, 'a')}
		return sets[some.Intn(len(sets))]
	case 5:
		return starOf(randomRegex(some, deep-1))
	case 8:
		kind = 6
	}
	var kids []api.Regex
	for range some.Intn(4) {
		kids = append(kids, randomRegex(some, deep-1))
	}
	return api.Regex{Kind: byte(kind - 4), Kids: kids}
}

// randomRules are 1 to 4 rules.
func randomRules(some *rand.Rand) []api.Regex {
	var l []api.Regex
	for range 1 + some.Intn(4) {
		l = append(l, randomRegex(some, 1+some.Intn(5)))
	}
	return l
}

// textsOf are all texts of at most so many of some parts.
func textsOf(parts []string, most int) []string {
	texts := []string{""}
	from := 0
	for range most {
		end := len(texts)
		for _, s := range texts[from:end] {
			for _, p := range parts {
				texts = append(texts, s+p)
			}
		}
		from = end
	}
	return texts
}
