package nfa

import (
	"math/rand"
	"slices"
	"strconv"
	"strings"

	"pleacher/api"
)

// This file has the chapter's words as they stand, read another way than the package does: without places, by which Ones an expression may begin and end with, and which of them may be one behind the other.

// set is the set of some bytes.
func set(b ...byte) api.Set {
	var s api.Set
	for _, c := range b {
		s[c/64] |= 1 << (c % 64)
	}
	return s
}

// holds tells whether a set has a byte.
func holds(s api.Set, c byte) bool { return s[c/64]>>(c%64)&1 == 1 }

func oneOf(b ...byte) api.Regex         { return api.Regex{Kind: api.One, Set: set(b...)} }
func catOf(l ...api.Regex) api.Regex    { return api.Regex{Kind: api.Cat, Kids: l} }
func altOf(l ...api.Regex) api.Regex    { return api.Regex{Kind: api.Alt, Kids: l} }
func starOf(l ...api.Regex) api.Regex   { return api.Regex{Kind: api.Star, Kids: l} }
func nilOf(kids ...api.Regex) api.Regex { return api.Regex{Kind: api.Nil, Kids: kids} }
func a() api.Regex                      { return oneOf('a') }
func b() api.Regex                      { return oneOf('b') }
func none() api.Regex                   { return api.Regex{Kind: api.One} }

// starred is an expression in so many Stars.
func starred(n int, x api.Regex) api.Regex {
	for range n {
		x = starOf(x)
	}
	return x
}

// plain is a machine as lists: of each One its set, what it may be followed by, and the rules that may end behind it.
type plain struct {
	sets   []api.Set
	behind []api.Front
	start  api.Front
}

// ends is what is told of an expression: may it be passed without a One, and the Ones that it may begin and end with.
type ends struct {
	empty       bool
	first, last []int
}

// follow puts Ones behind others.
func (p *plain) follow(last, first []int) {
	for _, i := range last {
		p.behind[i].Ones = append(p.behind[i].Ones, first...)
	}
}

// add takes an expression's Ones into the machine.
func (p *plain) add(x api.Regex) ends {
	switch x.Kind {
	case api.One:
		i := len(p.sets)
		p.sets = append(p.sets, x.Set)
		p.behind = append(p.behind, api.Front{})
		return ends{first: []int{i}, last: []int{i}}
	case api.Cat:
		all := ends{empty: true}
		for _, k := range x.Kids {
			e := p.add(k)
			p.follow(all.last, e.first)
			if all.empty {
				all.first = slices.Concat(all.first, e.first)
			}
			if e.empty {
				all.last = slices.Concat(all.last, e.last)
			} else {
				all.last = e.last
			}
			all.empty = all.empty && e.empty
		}
		return all
	case api.Alt:
		all := ends{}
		for _, k := range x.Kids {
			e := p.add(k)
			all.first, all.last = slices.Concat(all.first, e.first), slices.Concat(all.last, e.last)
			all.empty = all.empty || e.empty
		}
		return all
	case api.Star:
		e := p.add(x.Kids[0])
		p.follow(e.last, e.first)
		e.empty = true
		return e
	}
	return ends{empty: true}
}

// plainOf is the machine of some rules.
func plainOf(l []api.Regex) *plain {
	p := &plain{}
	for r, x := range l {
		e := p.add(x)
		p.start.Ones = append(p.start.Ones, e.first...)
		if e.empty {
			p.start.Rules = append(p.start.Rules, r)
		}
		for _, i := range e.last {
			p.behind[i].Rules = append(p.behind[i].Rules, r)
		}
	}
	p.start = sorted(p.start)
	for i := range p.behind {
		p.behind[i] = sorted(p.behind[i])
	}
	return p
}

// sorted is a front with its numbers rising, each once.
func sorted(f api.Front) api.Front {
	return api.Front{Ones: once(f.Ones), Rules: once(f.Rules)}
}

// once are numbers, rising, each once.
func once(l []int) []int {
	l = slices.Clone(l)
	slices.Sort(l)
	return slices.Compact(l)
}

// step is a front one byte on.
func (p *plain) step(f api.Front, c byte) api.Front {
	var g api.Front
	for i, s := range p.sets {
		if holds(s, c) && slices.Contains(f.Ones, i) {
			g.Ones = append(g.Ones, p.behind[i].Ones...)
			g.Rules = append(g.Rules, p.behind[i].Rules...)
		}
	}
	return sorted(g)
}

// run is the front of a text.
func (p *plain) run(s string) api.Front {
	f := p.start
	for _, c := range []byte(s) {
		f = p.step(f, c)
	}
	return f
}

// same tells whether two fronts have the same numbers in the same order.
func same(f, g api.Front) bool {
	return slices.Equal(f.Ones, g.Ones) && slices.Equal(f.Rules, g.Rules)
}

// sameRegex tells whether two expressions are the same.
func sameRegex(x, y api.Regex) bool {
	return x.Kind == y.Kind && x.Set == y.Set && slices.EqualFunc(x.Kids, y.Kids, sameRegex)
}

// count is how many nodes an expression has.
func count(x api.Regex) int {
	n := 1
	for _, k := range x.Kids {
		n += count(k)
	}
	return n
}

// show is an expression as a text.
func show(x api.Regex) string {
	var l []string
	for _, k := range x.Kids {
		l = append(l, show(k))
	}
	name := "kind " + strconv.Itoa(int(x.Kind))
	if int(x.Kind) < 5 {
		name = []string{"nil", "one", "cat", "alt", "star"}[x.Kind]
	}
	if x.Kind == api.One {
		for c := range 256 {
			if holds(x.Set, byte(c)) {
				name += strconv.QuoteToASCII(string([]byte{byte(c)}))
			}
		}
	}
	return name + "(" + strings.Join(l, " ") + ")"
}

// showAll are some expressions as a text.
func showAll(l []api.Regex) string {
	return show(catOf(l...))
}

// randomRegex is an expression at most so deep, of all kinds, with all edges.
func randomRegex(some *rand.Rand, deep int) api.Regex {
	kind := some.Intn(8)
	if deep <= 1 && kind > 4 {
		kind = some.Intn(5)
	}
	switch kind {
	case 0:
		return nilOf()
	case 1:
		return none()
	case 2, 3, 4:
		sets := []api.Regex{a(), b(), oneOf('a', 'b'), oneOf(0, 127, 128, 255), oneOf(255, 'a')}
		return sets[some.Intn(len(sets))]
	case 5:
		return starOf(randomRegex(some, deep-1))
	}
	var kids []api.Regex
	for range some.Intn(4) {
		kids = append(kids, randomRegex(some, deep-1))
	}
	return api.Regex{Kind: byte(kind - 4), Kids: kids}
}

// randomRules are 1 to 4 rules.
func randomRules(some *rand.Rand) []api.Regex {
	var l []api.Regex
	for range 1 + some.Intn(4) {
		l = append(l, randomRegex(some, 1+some.Intn(5)))
	}
	return l
}

// textsOf are all texts of at most so many of some parts.
func textsOf(parts []string, most int) []string {
	texts := []string{""}
	from := 0
	for range most {
		end := len(texts)
		for _, s := range texts[from:end] {
			for _, p := range parts {
				texts = append(texts, s+p)
			}
		}
		from = end
	}
	return texts
}
