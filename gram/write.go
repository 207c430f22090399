package gram

import (
	"strconv"
	"strings"

	"pleacher/api"
)

// page is a grammar's text under way, with the bytes for which there is room left: below 0, if there was too little.
type page struct {
	strings.Builder
	left int
}

// line puts a line of some words at the page's end. For what there is no room it isn't put there: expressions may be of any length, and take no memory so.
func (p *page) line(words ...string) {
	for _, w := range words {
		p.left -= len(w) + 1 // behind each word stands a blank, or the byte 10
	}
	if p.left >= 0 {
		p.WriteString(strings.Join(words, " "))
		p.WriteByte('\n')
	}
}

// grammar puts all lines of a grammar, which may be.
func (p *page) grammar(g api.Grammar) {
	for _, t := range g.Tokens {
		p.token(t)
	}
	if g.Start != "" {
		p.line("start", g.Start)
	}
	for _, r := range g.Prods {
		p.line(append([]string{"rule", r.Left, ":"}, r.Right...)...)
	}
	for _, n := range g.Notes {
		p.line(append([]string{noteWord(n.Kind)}, n.Args...)...)
	}
}

// token puts a token's line, and that of its class.
func (p *page) token(t api.Token) {
	word := "token"
	if t.Skip {
		word = "skip"
	}
	p.line(word, t.Name, t.Regex)
	if t.Class != 0 {
		p.line("class", t.Name, strconv.Itoa(t.Class))
	}
}

// noteWord is the first word of the lines of a kind of notes.
func noteWord(kind byte) string {
	switch kind {
	case api.List:
		return "list"
	case api.Delim:
		return "delim"
	}
	return "hole"
}
