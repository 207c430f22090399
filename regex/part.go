package regex

import (
	"pleacher/api"
	"pleacher/bytesets"
)

// part is a node of an expression while a text is read, byte by byte: all ways to match go on at once, so that a byte costs no more than the nodes, whatever stars stand in one another.
type part struct {
	kind  byte
	set   api.Set
	kids  []part
	empty bool // it matches the empty text
	done  bool // it matches bytes, one at least, up to the place that was come to, from one on at which it might begin
}

// partOf is an expression, which may be, of which nothing is read.
func partOf(x api.Regex) part {
	p := part{kind: x.Kind, set: x.Set, empty: empty(x)}
	for _, kid := range x.Kids {
		p.kids = append(p.kids, partOf(kid))
	}
	return p
}

// read goes on by the byte c; begin tells whether the part may begin with it.
func (p *part) read(c byte, begin bool) {
	switch p.kind {
	case api.One:
		p.done = begin && bytesets.Has(p.set, c)
	case api.Cat:
		p.readCat(c, begin)
	case api.Alt:
		p.readAlt(c, begin)
	case api.Star:
		kid := &p.kids[0]
		kid.read(c, begin || kid.done)
		p.done = kid.done
	}
}

// readCat is read of a Cat: a kid may begin where the one ahead of it was done, or where that might begin and is nothing.
func (p *part) readCat(c byte, begin bool) {
	p.done = false
	for i := range p.kids {
		kid := &p.kids[i]
		was := kid.done
		kid.read(c, begin)
		begin = was || begin && kid.empty
		p.done = kid.done || p.done && kid.empty
	}
}

// readAlt is read of an Alt: each kid may begin where it may.
func (p *part) readAlt(c byte, begin bool) {
	p.done = false
	for i := range p.kids {
		p.kids[i].read(c, begin)
		p.done = p.done || p.kids[i].done
	}
}
