package symbols

import (
	"slices"
	"strings"

	"pleacher/api"
	"pleacher/gram"
	"pleacher/regex"
)

// resolver makes the syntax of a grammar, which it embeds with what is found out of it.
type resolver struct {
	lore
	from    api.Grammar
	regexes []api.Regex // of the grammar's tokens
}

// steps is what is asked of a grammar, and made of it, one behind the other: each is of the whole grammar.
func (r *resolver) steps() []func() api.Errno {
	return []func() api.Errno{r.ask, r.count, r.number, r.parse, r.askEmpty, r.name, r.askUse, r.note}
}

// ask asks whether the grammar may be.
func (r *resolver) ask() api.Errno {
	return unless(gram.Right(r.from), api.ErrArg)
}

// unless is no error, if something holds, else the one that is given.
func unless(holds bool, e api.Errno) api.Errno {
	if holds {
		return api.OK
	}
	return e
}

// count asks whether the grammar has what it must have.
func (r *resolver) count() api.Errno {
	read := slices.ContainsFunc(r.from.Tokens, func(t api.Token) bool { return !t.Skip })
	return unless(read && len(r.from.Prods) > 0 && r.from.Start != "", api.ErrEmpty)
}

// number gives the symbols their numbers, unless a token's name is there twice.
func (r *resolver) number() api.Errno {
	for i, t := range r.from.Tokens {
		if r.twice(i) {
			return api.ErrTwice
		}
		r.token(t)
	}
	r.Terms = len(r.Names)
	r.Names = append(r.Names, "")
	for _, p := range r.from.Prods {
		if !slices.Contains(r.Names, p.Left) {
			r.Names = append(r.Names, strings.Clone(p.Left))
		}
	}
	return api.OK
}

// twice tells whether the name of a token is one's ahead of it, too, or a Left.
func (r *resolver) twice(token int) bool {
	name := r.from.Tokens[token].Name
	ahead := slices.ContainsFunc(r.from.Tokens[:token], func(t api.Token) bool { return t.Name == name })
	return ahead || slices.ContainsFunc(r.from.Prods, func(p api.Prod) bool { return p.Left == name })
}

// token gives a token its term's number, if it isn't skipped.
func (r *resolver) token(t api.Token) {
	if t.Skip {
		r.Of = append(r.Of, -1)
		return
	}
	r.Of = append(r.Of, len(r.Names))
	r.Names = append(r.Names, strings.Clone(t.Name))
	r.Class = append(r.Class, t.Class)
}

// parse reads the tokens' expressions.
func (r *resolver) parse() api.Errno {
	for _, t := range r.from.Tokens {
		x, e := regex.Parse(t.Regex)
		if e != api.OK {
			return e
		}
		r.regexes = append(r.regexes, x)
	}
	return api.OK
}

// askEmpty asks whether no token may be empty.
func (r *resolver) askEmpty() api.Errno {
	return unless(!slices.ContainsFunc(r.regexes, regex.Empty), api.ErrEmpty)
}

// numbers is the symbols' numbers of names, and whether all of them are symbols'.
func (r *resolver) numbers(names ...string) ([]int, bool) {
	var l []int
	for _, name := range names {
		sym := slices.Index(r.Names, name)
		if sym < 0 {
			return nil, false
		}
		l = append(l, sym)
	}
	return l, true
}

// name makes the rules, and asks whether all names are symbols'.
func (r *resolver) name() api.Errno {
	r.Start = slices.Index(r.Names, r.from.Start)
	ok := r.other(r.Start)
	for _, p := range r.from.Prods {
		right, there := r.numbers(p.Right...)
		r.Rules = append(r.Rules, api.Rule{Left: slices.Index(r.Names, p.Left), Right: right})
		ok = ok && there
	}
	for _, n := range r.from.Notes {
		_, there := r.numbers(n.Args...)
		ok = ok && there
	}
	return unless(ok, api.ErrName)
}

// askUse asks whether all others are of use.
func (r *resolver) askUse() api.Errno {
	return unless(r.useful(), api.ErrUseless)
}

// rule is the number of the first rule of a symbol that has a right side; -1, if there is none.
func (r *resolver) rule(left int, right ...int) int {
	for i := range r.Rules {
		if r.says(i, left, right...) {
			return i
		}
	}
	return -1
}

// list is the numbers of a list's note.
func (r *resolver) list(args []int) []int {
	list, item := args[0], args[1]
	if len(args) == 2 {
		return []int{list, item, -1, r.rule(list), r.rule(list, list, item)}
	}
	return []int{list, item, args[2], r.rule(list, item), r.rule(list, list, args[2], item)}
}

// ruled is the numbers of a note's symbols, behind that of the rule whose Left is the first one, and whose right side the others are.
func (r *resolver) ruled(args []int) []int {
	return append([]int{r.rule(args[0], args[1:]...)}, args...)
}

// note numbers the notes, and asks whether they are as they must be.
func (r *resolver) note() api.Errno {
	for _, n := range r.from.Notes {
		args, _ := r.numbers(n.Args...)
		switch n.Kind {
		case api.List:
			r.Lists = append(r.Lists, r.list(args))
		case api.Delim:
			r.Delims = append(r.Delims, r.ruled(args))
		case api.Hole:
			r.Holes = append(r.Holes, r.ruled(args))
		}
	}
	return unless(r.noted(), api.ErrNote)
}
