package regex

import (
	"strings"

	"pleacher/api"
	"pleacher/bytesets"
	"pleacher/runes"
)

// The signs that don't stand for themselves unless they are escaped: outside of a class, and inside; and all that may be escaped beside n, t and r.
const (
	outside = "|*+?()[].\\"
	inside  = "]\\-^"
	escapes = outside + "-^"
)

// refusal is what a text that is no expression's is given up with, from however deep within it.
type refusal struct {
	why api.Errno
}

// need gives a text up with an error, unless something holds of it.
func need(holds bool, why api.Errno) {
	if !holds {
		panic(refusal{why})
	}
}

// read is the expression of a text, which is whole.
func read(s string) (x api.Regex, e api.Errno) {
	defer func() {
		if given := recover(); given != nil {
			x, e = api.Regex{}, given.(refusal).why
		}
	}()
	r := reader{rest: s}
	x = r.alt()
	need(r.rest == "", api.ErrRegex)
	need(!r.big && Right(x), api.ErrBig)
	return x, api.OK
}

// one is a One of a set.
func one(s api.Set) api.Regex {
	return api.Regex{Kind: api.One, Set: s}
}

// span is a One of the bytes from lo to hi.
func span(lo, hi byte) api.Regex {
	return one(bytesets.Range(lo, hi))
}

// joined is expressions, put together by a Kind, Cat or Alt; a single one is that, and none are Nil.
func joined(kind byte, l ...api.Regex) api.Regex {
	switch len(l) {
	case 0:
		return api.Regex{Kind: api.Nil}
	case 1:
		return l[0]
	}
	return api.Regex{Kind: kind, Kids: l}
}

// star is a Star of an expression.
func star(x api.Regex) api.Regex {
	return api.Regex{Kind: api.Star, Kids: []api.Regex{x}}
}

// copied is an expression that shares no memory with the one that is given.
func copied(x api.Regex) api.Regex {
	var kids []api.Regex
	for _, kid := range x.Kids {
		kids = append(kids, copied(kid))
	}
	x.Kids = kids
	return x
}

// repeated is what one of * + ? makes of an expression.
func repeated(x api.Regex, how int) api.Regex {
	switch how {
	case '*':
		return star(x)
	case '+':
		return joined(api.Cat, x, star(copied(x)))
	}
	return joined(api.Alt, x, api.Regex{Kind: api.Nil})
}

// sign is the expression of the sign n.
func sign(n int) api.Regex {
	var l []api.Regex
	for _, c := range []byte(runes.Bytes(n)) {
		l = append(l, one(bytesets.Of(c)))
	}
	return joined(api.Cat, l...)
}

// signBut is any sign but that of 10, and those below 128 that a set has.
func signBut(s api.Set) api.Regex {
	low := bytesets.Less(bytesets.Range(0, 127), bytesets.Or(s, bytesets.Of(10)))
	next := span(128, 191)
	return joined(api.Alt,
		one(low),
		joined(api.Cat, span(194, 223), next),
		joined(api.Cat, span(224, 239), next, next),
		joined(api.Cat, span(240, 244), next, next, next))
}

// reader reads an expression's text.
type reader struct {
	rest string // what isn't read yet
	big  bool   // some piece of the expression may not be
}

// at tells whether one of some signs, below 128, is next.
func (r *reader) at(signs string) bool {
	return r.rest != "" && strings.IndexByte(signs, r.rest[0]) >= 0
}

// pass goes behind the sign c, below 128, if it is next, and tells whether it was.
func (r *reader) pass(c byte) bool {
	if r.rest == "" || r.rest[0] != c {
		return false
	}
	r.rest = r.rest[1:]
	return true
}

// sign goes behind the next sign, which there must be.
func (r *reader) sign() int {
	n, k := runes.First(r.rest)
	need(k > 0, api.ErrRegex)
	r.rest = r.rest[k:]
	return n
}

// escaped goes behind what stands behind a backslash.
func (r *reader) escaped() int {
	switch {
	case r.pass('n'):
		return 10
	case r.pass('t'):
		return 9
	case r.pass('r'):
		return 13
	}
	need(r.at(escapes), api.ErrRegex)
	return r.sign()
}

// meant goes behind a sign that stands for itself, as those of a list don't, or behind one that is escaped.
func (r *reader) meant(not string) int {
	if r.pass('\\') {
		return r.escaped()
	}
	need(!r.at(not), api.ErrRegex)
	return r.sign()
}

// alt reads an ALT.
func (r *reader) alt() api.Regex {
	l := []api.Regex{r.cat()}
	for r.pass('|') {
		l = append(l, r.cat())
	}
	return joined(api.Alt, l...)
}

// cat reads a CAT: it goes on to what can only stand behind one.
func (r *reader) cat() api.Regex {
	var l []api.Regex
	for r.rest != "" && !r.at("|)") {
		l = append(l, r.rep())
	}
	return joined(api.Cat, l...)
}

// rep reads a REP.
func (r *reader) rep() api.Regex {
	x := r.atom()
	for r.at("*+?") {
		x = repeated(x, r.sign())
		// Each + doubles what stands ahead of it. What has grown too big is left out, and the text read on: it may yet be none.
		if !Right(x) {
			r.big = true
			x = api.Regex{}
		}
	}
	return x
}

// atom reads an ATOM.
func (r *reader) atom() api.Regex {
	switch {
	case r.pass('('):
		x := r.alt()
		need(r.pass(')'), api.ErrRegex)
		return x
	case r.pass('['):
		return r.class()
	case r.pass('.'):
		return signBut(api.Set{})
	}
	return sign(r.meant(outside))
}

// class reads a class, behind its opening bracket.
func (r *reader) class() api.Regex {
	but := r.pass('^')
	s := r.item()
	for !r.pass(']') {
		s = bytesets.Or(s, r.item())
	}
	if but {
		return signBut(s)
	}
	return one(s)
}

// item reads an ITEM of a class.
func (r *reader) item() api.Set {
	lo := r.member()
	hi := lo
	if r.pass('-') {
		hi = r.member()
	}
	need(lo <= hi, api.ErrRegex)
	return bytesets.Range(lo, hi)
}

// member reads a sign of a class, which is below 128.
func (r *reader) member() byte {
	n := r.meant(inside)
	need(n < 128, api.ErrRegex)
	return byte(n)
}
