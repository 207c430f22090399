package regex

import (
	"math/rand"
	"strings"
	"unicode/utf8"

	"pleacher/api"
)

// This file has the chapter's words as they stand, read another way than the package does: each text in all ways that there might be, each expression by what its kids match.

// set is the set of some bytes.
func set(b ...byte) api.Set {
	var s api.Set
	for _, c := range b {
		s[c/64] |= 1 << (c % 64)
	}
	return s
}

// setFrom is the set of the bytes from lo to hi.
func setFrom(lo, hi int) api.Set {
	var s api.Set
	for c := lo; c <= hi; c++ {
		s[c/64] |= 1 << (c % 64)
	}
	return s
}

func oneOf(b ...byte) api.Regex         { return api.Regex{Kind: api.One, Set: set(b...)} }
func oneFrom(lo, hi int) api.Regex      { return api.Regex{Kind: api.One, Set: setFrom(lo, hi)} }
func catOf(l ...api.Regex) api.Regex    { return api.Regex{Kind: api.Cat, Kids: l} }
func altOf(l ...api.Regex) api.Regex    { return api.Regex{Kind: api.Alt, Kids: l} }
func starOf(l ...api.Regex) api.Regex   { return api.Regex{Kind: api.Star, Kids: l} }
func nilOf(kids ...api.Regex) api.Regex { return api.Regex{Kind: api.Nil, Kids: kids} }

// manyOf are so many expressions, each the same.
func manyOf(n int, x api.Regex) []api.Regex {
	var l []api.Regex
	for range n {
		l = append(l, x)
	}
	return l
}

// starred is an expression in so many Stars.
func starred(n int, x api.Regex) api.Regex {
	for range n {
		x = starOf(x)
	}
	return x
}

// anyBut is any sign but that of 10 and some others below 128.
func anyBut(but ...byte) api.Regex {
	low := setFrom(0, 127)
	for _, c := range append([]byte{10}, but...) {
		low[c/64] &^= 1 << (c % 64)
	}
	next := oneFrom(128, 191)
	return altOf(api.Regex{Kind: api.One, Set: low},
		catOf(oneFrom(194, 223), next),
		catOf(oneFrom(224, 239), next, next),
		catOf(oneFrom(240, 244), next, next, next))
}

// same tells whether two expressions are the same, lists without anything being one.
func same(x, y api.Regex) bool {
	if x.Kind != y.Kind || x.Set != y.Set || len(x.Kids) != len(y.Kids) {
		return false
	}
	for i := range x.Kids {
		if !same(x.Kids[i], y.Kids[i]) {
			return false
		}
	}
	return true
}

// plainNodes is how many nodes an expression has, and how deep it is.
func plainNodes(x api.Regex) (nodes, deep int) {
	nodes, deep = 1, 1
	for _, k := range x.Kids {
		n, d := plainNodes(k)
		nodes += n
		deep = max(deep, d+1)
	}
	return nodes, deep
}

// show is an expression to be told of in a test.
func show(x api.Regex) string {
	var b strings.Builder
	b.WriteString([]string{"Nil", "One", "Cat", "Alt", "Star"}[x.Kind])
	if x.Kind == api.One {
		b.WriteByte('[')
		for c := range 256 {
			if x.Set[c/64]>>(c%64)&1 == 1 {
				b.WriteByte(byte(c))
			}
		}
		b.WriteByte(']')
	}
	for _, k := range x.Kids {
		b.WriteString(" (" + show(k) + ")")
	}
	return b.String()
}

// plainMatches tells whether an expression matches a text, by all ways to cut the text.
func plainMatches(x api.Regex, s string) bool {
	switch x.Kind {
	case api.One:
		return len(s) == 1 && x.Set[s[0]/64]>>(s[0]%64)&1 == 1
	case api.Cat:
		if len(x.Kids) == 0 {
			return s == ""
		}
		for i := range len(s) + 1 {
			if plainMatches(x.Kids[0], s[:i]) && plainMatches(catOf(x.Kids[1:]...), s[i:]) {
				return true
			}
		}
		return false
	case api.Alt:
		for _, k := range x.Kids {
			if plainMatches(k, s) {
				return true
			}
		}
		return false
	case api.Star:
		for i := 1; i <= len(s); i++ {
			if plainMatches(x.Kids[0], s[:i]) && plainMatches(x, s[i:]) {
				return true
			}
		}
	}
	return s == ""
}

// plainSets is the sets of all Ones, in order.
func plainSets(x api.Regex) []api.Set {
	var l []api.Set
	if x.Kind == api.One {
		l = append(l, x.Set)
	}
	for _, k := range x.Kids {
		l = append(l, plainSets(k)...)
	}
	return l
}

// reading is one way to read a piece of a text: expressions one behind the other, and where it ends.
type reading struct {
	l   []api.Regex
	end int
}

// plainAlts is all ways to read an ALT from the place i on, its CATs as a list.
func plainAlts(s []rune, i int) []reading {
	var all []reading
	for _, c := range plainCats(s, i) {
		x := catOf(c.l...)
		switch len(c.l) {
		case 0:
			x = nilOf()
		case 1:
			x = c.l[0]
		}
		all = append(all, reading{[]api.Regex{x}, c.end})
		if c.end < len(s) && s[c.end] == '|' {
			for _, more := range plainAlts(s, c.end+1) {
				all = append(all, reading{append([]api.Regex{x}, more.l...), more.end})
			}
		}
	}
	return all
}

// plainAlt is what a list of CATs is.
func plainAlt(l []api.Regex) api.Regex {
	if len(l) == 1 {
		return l[0]
	}
	return altOf(l...)
}

// plainCats is all ways to read REPs from the place i on.
func plainCats(s []rune, i int) []reading {
	all := []reading{{nil, i}}
	for _, r := range plainReps(s, i) {
		for _, more := range plainCats(s, r.end) {
			all = append(all, reading{append([]api.Regex{r.l[0]}, more.l...), more.end})
		}
	}
	return all
}

// plainReps is all ways to read a REP from the place i on.
func plainReps(s []rune, i int) []reading {
	var all []reading
	for _, a := range plainAtoms(s, i) {
		x, end := a.l[0], a.end
		all = append(all, reading{[]api.Regex{x}, end})
		for end < len(s) && strings.ContainsRune("*+?", s[end]) {
			x = map[rune]api.Regex{'*': starOf(x), '+': catOf(x, starOf(x)), '?': altOf(x, nilOf())}[s[end]]
			end++
			all = append(all, reading{[]api.Regex{x}, end})
		}
	}
	return all
}

// plainAtoms is all ways to read an ATOM from the place i on.
func plainAtoms(s []rune, i int) []reading {
	if i == len(s) {
		return nil
	}
	var all []reading
	switch c := s[i]; {
	case c == '(':
		for _, r := range plainAlts(s, i+1) {
			if r.end < len(s) && s[r.end] == ')' {
				all = append(all, reading{[]api.Regex{plainAlt(r.l)}, r.end + 1})
			}
		}
	case c == '[':
		all = plainClasses(s, i+1)
	case c == '.':
		all = append(all, reading{[]api.Regex{anyBut()}, i + 1})
	case !strings.ContainsRune(`|*+?()[].\`, c):
		all = append(all, reading{[]api.Regex{plainSign(c)}, i + 1})
	case c == '\\':
		if n, ok := plainEscaped(s, i); ok {
			all = append(all, reading{[]api.Regex{plainSign(n)}, i + 2})
		}
	}
	return all
}

// plainSign is a sign as an expression.
func plainSign(c rune) api.Regex {
	var l []api.Regex
	for _, b := range []byte(string(c)) {
		l = append(l, oneOf(b))
	}
	if len(l) == 1 {
		return l[0]
	}
	return catOf(l...)
}

// plainEscaped is the sign that a backslash at the place i and what is behind it stand for.
func plainEscaped(s []rune, i int) (rune, bool) {
	if i+1 >= len(s) {
		return 0, false
	}
	switch c := s[i+1]; c {
	case 'n':
		return 10, true
	case 't':
		return 9, true
	case 'r':
		return 13, true
	case '|', '*', '+', '?', '(', ')', '[', ']', '.', '\\', '-', '^':
		return c, true
	}
	return 0, false
}

// plainClasses is all ways to read a class, behind its opening bracket at the place i on.
func plainClasses(s []rune, i int) []reading {
	var all []reading
	for _, r := range plainItems(s, i) {
		if len(r.l) > 0 && r.end < len(s) && s[r.end] == ']' {
			all = append(all, reading{[]api.Regex{{Kind: api.One, Set: plainOr(r.l)}}, r.end + 1})
		}
	}
	if i < len(s) && s[i] == '^' {
		for _, r := range plainItems(s, i+1) {
			if len(r.l) > 0 && r.end < len(s) && s[r.end] == ']' {
				var but []byte
				for c, both := 0, plainOr(r.l); c < 128; c++ {
					if both[c/64]>>(c%64)&1 == 1 {
						but = append(but, byte(c))
					}
				}
				all = append(all, reading{[]api.Regex{anyBut(but...)}, r.end + 1})
			}
		}
	}
	return all
}

// plainOr is the sets of some Ones, put together.
func plainOr(l []api.Regex) api.Set {
	var s api.Set
	for _, x := range l {
		for i := range s {
			s[i] |= x.Set[i]
		}
	}
	return s
}

// plainItems is all ways to read ITEMS from the place i on, none too.
func plainItems(s []rune, i int) []reading {
	all := []reading{{nil, i}}
	lo, end, ok := plainMember(s, i)
	if !ok {
		return all
	}
	items := []reading{{[]api.Regex{oneFrom(int(lo), int(lo))}, end}}
	if end < len(s) && s[end] == '-' {
		if hi, end, ok := plainMember(s, end+1); ok && lo <= hi {
			items = append(items, reading{[]api.Regex{oneFrom(int(lo), int(hi))}, end})
		}
	}
	for _, r := range items {
		for _, more := range plainItems(s, r.end) {
			all = append(all, reading{append([]api.Regex{r.l[0]}, more.l...), more.end})
		}
	}
	return all
}

// plainMember is the X or Y at the place i, and where it ends.
func plainMember(s []rune, i int) (rune, int, bool) {
	if i >= len(s) {
		return 0, 0, false
	}
	if s[i] < 128 && !strings.ContainsRune(`]\-^`, s[i]) {
		return s[i], i + 1, true
	}
	if s[i] == '\\' {
		if n, ok := plainEscaped(s, i); ok {
			return n, i + 2, true
		}
	}
	return 0, 0, false
}

// plainParse is the expression of a text, or its error; ways is in how many ways the text is read.
func plainParse(s string) (x api.Regex, e api.Errno, ways int) {
	if len(s) > 100 {
		return api.Regex{}, api.ErrBig, 0
	}
	if !utf8.ValidString(s) {
		return api.Regex{}, api.ErrRegex, 0
	}
	signs := []rune(s)
	for _, r := range plainAlts(signs, 0) {
		if r.end == len(signs) {
			x = plainAlt(r.l)
			ways++
		}
	}
	if ways == 0 {
		return api.Regex{}, api.ErrRegex, 0
	}
	if nodes, deep := plainNodes(x); nodes > 400 || deep > 60 {
		return api.Regex{}, api.ErrBig, ways
	}
	return x, api.OK, ways
}

// randomRegex is an expression, at most so deep, of few unlike bytes, that may be.
func randomRegex(some *rand.Rand, deep int) api.Regex {
	if deep <= 1 {
		switch some.Intn(8) {
		case 0:
			return nilOf()
		case 1:
			return catOf()
		case 2:
			return altOf()
		case 3:
			return api.Regex{Kind: api.One}
		case 4:
			return oneOf('a', 'b')
		}
		return oneOf("ab\xff"[some.Intn(3)])
	}
	kind := []byte{api.Cat, api.Cat, api.Alt, api.Star}[some.Intn(4)]
	if kind == api.Star {
		return starOf(randomRegex(some, deep-1))
	}
	var l []api.Regex
	for range some.Intn(4) {
		l = append(l, randomRegex(some, 1+some.Intn(deep-1)))
	}
	return api.Regex{Kind: kind, Kids: l}
}

// textsOf is all texts of at most n of some signs.
func textsOf(signs []string, n int) []string {
	all := []string{""}
	last := all
	for range n {
		var longer []string
		for _, s := range last {
			for _, c := range signs {
				longer = append(longer, s+c)
			}
		}
		all = append(all, longer...)
		last = longer
	}
	return all
}
