package gram

import (
	"strings"

	"pleacher/api"
)

// reader reads a description line by line. It embeds the grammar that the lines up to now say.
type reader struct {
	api.Grammar
}

// deed takes a line by the words behind its first one, and answers its error.
type deed func(r *reader, words ...string) api.Errno

// deeds has the deed of each first word.
func deeds() map[string]deed {
	return map[string]deed{
		"token": (*reader).token,
		"skip":  (*reader).skip,
		"class": (*reader).class,
		"start": (*reader).start,
		"rule":  (*reader).rule,
		"list":  (*reader).list,
		"delim": (*reader).delim,
		"hole":  (*reader).hole,
	}
}

// wordsOf is a line's words. All that stands behind the one blank behind a token's name is its expression, and so one word, whatever blanks are in it.
func wordsOf(line string) []string {
	var words []string
	rest := strings.TrimLeft(line, " ")
	for rest != "" {
		word, behind, _ := strings.Cut(rest, " ")
		words = append(words, word)
		if len(words) == 2 && (words[0] == "token" || words[0] == "skip") && behind != "" {
			return append(words, behind)
		}
		rest = strings.TrimLeft(behind, " ")
	}
	return words
}

// read takes all lines of a text; it answers the first error.
func (r *reader) read(s string) api.Errno {
	does := deeds()
	for _, line := range strings.Split(s, "\n") {
		words := wordsOf(line)
		if len(words) == 0 || words[0][0] == '#' {
			continue
		}
		do, ok := does[words[0]]
		if !ok {
			return api.ErrForm
		}
		if e := do(r, words[1:]...); e != api.OK {
			return e
		}
	}
	return api.OK
}

// number tells whether a word is a number.
func number(word string) bool {
	return len(word) == 1 && word[0] >= '1' && word[0] <= '9'
}

// What a first word says of a line beyond its words is its token's Skip, or its note's Kind.

func (r *reader) token(words ...string) api.Errno { return r.pattern(false, words...) }
func (r *reader) skip(words ...string) api.Errno  { return r.pattern(true, words...) }
func (r *reader) list(words ...string) api.Errno  { return r.note(api.List, words...) }
func (r *reader) delim(words ...string) api.Errno { return r.note(api.Delim, words...) }
func (r *reader) hole(words ...string) api.Errno  { return r.note(api.Hole, words...) }

// pattern takes a rule of tokens: NAME REGEX.
func (r *reader) pattern(skip bool, words ...string) api.Errno {
	switch {
	case len(words) != 2:
		return api.ErrForm
	case !named(words[0]):
		return api.ErrName
	case len(r.Tokens) == api.MaxRules:
		return api.ErrBig
	}
	r.Tokens = append(r.Tokens, api.Token{Name: words[0], Regex: words[1], Skip: skip})
	return api.OK
}

// class takes a token's class: NAME NUMBER.
func (r *reader) class(words ...string) api.Errno {
	if len(words) != 2 || !number(words[1]) {
		return api.ErrForm
	}
	// Of tokens of one name the last one has the class.
	for i := len(r.Tokens) - 1; i >= 0; i-- {
		if r.Tokens[i].Name == words[0] {
			r.Tokens[i].Class = int(words[1][0] - '0')
			return api.OK
		}
	}
	return api.ErrName
}

// start takes the start: NAME.
func (r *reader) start(words ...string) api.Errno {
	switch {
	case len(words) != 1:
		return api.ErrForm
	case !named(words...):
		return api.ErrName
	case r.Start != "":
		return api.ErrTwice
	}
	r.Start = words[0]
	return api.OK
}

// rule takes a production: NAME : NAMES.
func (r *reader) rule(words ...string) api.Errno {
	if len(words) < 2 || words[1] != ":" {
		return api.ErrForm
	}
	p := api.Prod{Left: words[0], Right: append([]string(nil), words[2:]...)}
	switch {
	case !named(p.Left) || !named(p.Right...):
		return api.ErrName
	case len(r.Prods) == api.MaxProds || len(p.Right) > api.MaxRight:
		return api.ErrBig
	}
	r.Prods = append(r.Prods, p)
	return api.OK
}

// note takes a note of a kind: its Args.
func (r *reader) note(kind byte, words ...string) api.Errno {
	switch {
	case !fits(kind, len(words)):
		return api.ErrForm
	case !named(words...):
		return api.ErrName
	case len(r.Notes) == api.MaxNotes:
		return api.ErrBig
	}
	r.Notes = append(r.Notes, api.Note{Kind: kind, Args: words})
	return api.OK
}
