package symbols

import (
	"math/rand"
	"reflect"
	"regexp"
	"slices"
	"strings"

	"pleacher/api"
)

// This file has the chapter's words as they stand, worked out another way than the package does: by names, by graphs of who leads to whom, and by writing texts down.

// plainRules is a grammar's rules by names, all of one other.
func plainRules(g api.Grammar, left string) []string {
	var l []string
	for _, p := range g.Prods {
		if p.Left == left {
			l = append(l, strings.Join(p.Right, " "))
		}
	}
	return l
}

// plainRule is the number of the first production that is so.
func plainRule(g api.Grammar, left, right string) int {
	return slices.IndexFunc(g.Prods, func(p api.Prod) bool { return p.Left == left && strings.Join(p.Right, " ") == right })
}

// plainNames are a grammar's terms and its others.
func plainNames(g api.Grammar) (read, others []string) {
	for _, t := range g.Tokens {
		if !t.Skip {
			read = append(read, t.Name)
		}
	}
	for _, p := range g.Prods {
		if !slices.Contains(others, p.Left) {
			others = append(others, p.Left)
		}
	}
	return read, others
}

// plainTwice tells whether a token's name is there twice.
func plainTwice(g api.Grammar) bool {
	count := map[string]int{}
	_, others := plainNames(g)
	for _, t := range g.Tokens {
		count[t.Name]++
	}
	for _, name := range others {
		if count[name] > 0 {
			return true
		}
	}
	for _, n := range count {
		if n > 1 {
			return true
		}
	}
	return false
}

// plainEmptyToken tells whether the library's expression of a token's matches the empty text.
func plainEmptyToken(t api.Token) bool {
	return regexp.MustCompile(`\A(?:` + t.Regex + `)\z`).MatchString("")
}

// plainWorth tells whether something comes of a name within so many steps.
func plainWorth(g api.Grammar, name string, steps int) bool {
	read, _ := plainNames(g)
	if slices.Contains(read, name) {
		return true
	}
	for _, p := range g.Prods {
		ok := p.Left == name && steps > 0
		for _, n := range p.Right {
			ok = ok && plainWorth(g, n, steps-1)
		}
		if ok {
			return true
		}
	}
	return false
}

// plainCome puts all names that are come to from a name into a list.
func plainCome(g api.Grammar, name string, come []string) []string {
	if slices.Contains(come, name) {
		return come
	}
	come = append(come, name)
	for _, p := range g.Prods {
		if p.Left == name {
			for _, n := range p.Right {
				come = plainCome(g, n, come)
			}
		}
	}
	return come
}

// plainNote is the numbers of a note, and whether it is as the words say.
func plainNote(g api.Grammar, n api.Note, number map[string]int) ([]int, bool) {
	read, others := plainNames(g)
	a := n.Args
	switch n.Kind {
	case api.List:
		first, second, between, ok := "", a[0]+" "+a[1], -1, true
		if len(a) == 3 {
			first, second, between, ok = a[1], a[0]+" "+a[2]+" "+a[1], number[a[2]], slices.Contains(read, a[2])
		}
		rules := plainRules(g, a[0])
		if len(rules) != 2 || a[0] == a[1] || !ok || !slices.Contains(rules, first) || !slices.Contains(rules, second) {
			return nil, false
		}
		return []int{number[a[0]], number[a[1]], between, plainRule(g, a[0], first), plainRule(g, a[0], second)}, true
	case api.Delim:
		rule := plainRule(g, a[0], strings.Join(a[1:], " "))
		ok := rule >= 0 && slices.Contains(read, a[1]) && slices.Contains(others, a[2]) && slices.Contains(read, a[3])
		return []int{rule, number[a[0]], number[a[1]], number[a[2]], number[a[3]]}, ok
	}
	rule := plainRule(g, a[0], a[1])
	return []int{rule, number[a[0]], number[a[1]]}, rule >= 0 && slices.Contains(read, a[1])
}

// plainResolve is Resolve of a grammar that may be, whose expressions are such as the library reads, too.
func plainResolve(g api.Grammar) (x api.Syntax, e api.Errno) {
	read, others := plainNames(g)
	if len(read) == 0 || len(others) == 0 || g.Start == "" {
		return x, api.ErrEmpty
	}
	if plainTwice(g) {
		return x, api.ErrTwice
	}
	if slices.ContainsFunc(g.Tokens, plainEmptyToken) {
		return x, api.ErrEmpty
	}
	number := map[string]int{}
	x.Names = append(append(append(x.Names, read...), ""), others...)
	for i, name := range x.Names {
		number[name] = i
	}
	named := slices.Contains(others, g.Start)
	for _, p := range g.Prods {
		r := api.Rule{Left: number[p.Left]}
		for _, name := range p.Right {
			n, ok := number[name]
			r.Right, named = append(r.Right, n), named && ok
		}
		x.Rules = append(x.Rules, r)
	}
	for _, n := range g.Notes {
		for _, name := range n.Args {
			named = named && slices.Contains(x.Names, name)
		}
	}
	if !named {
		return api.Syntax{}, api.ErrName
	}
	for _, name := range others {
		if !plainWorth(g, name, len(others)) || !slices.Contains(plainCome(g, g.Start, nil), name) {
			return api.Syntax{}, api.ErrUseless
		}
	}
	x.Terms, x.Start = len(read), number[g.Start]
	for _, t := range g.Tokens {
		if t.Skip {
			x.Of = append(x.Of, -1)
		} else {
			x.Of, x.Class = append(x.Of, number[t.Name]), append(x.Class, t.Class)
		}
	}
	for _, n := range g.Notes {
		l, ok := plainNote(g, n, number)
		if !ok {
			return api.Syntax{}, api.ErrNote
		}
		switch n.Kind {
		case api.List:
			x.Lists = append(x.Lists, l)
		case api.Delim:
			x.Delims = append(x.Delims, l)
		default:
			x.Holes = append(x.Holes, l)
		}
	}
	return x, api.OK
}

// plainIn tells whether a number is from one number to ahead of another.
func plainIn(n, from, to int) bool { return from <= n && n < to }

// plainRight tells whether a syntax (none with a great many names) may be.
func plainRight(x api.Syntax) bool {
	n, others := len(x.Names), x.Terms+1
	if !plainIn(x.Terms, 1, 33) || !plainIn(len(x.Rules), 1, 65) || !plainIn(x.Start, others, n) || len(x.Of) > 32 || len(x.Class) != x.Terms {
		return false
	}
	for _, term := range x.Of {
		if !plainIn(term, -1, x.Terms) {
			return false
		}
	}
	for _, r := range x.Rules {
		if !plainIn(r.Left, others, n) || len(r.Right) > 8 {
			return false
		}
		for _, sym := range r.Right {
			if !plainIn(sym, 0, n) || sym == x.Terms {
				return false
			}
		}
	}
	worth, come := plainClosed(n, func(has []bool) {
		for sym := range x.Terms {
			has[sym] = true
		}
		for _, r := range x.Rules {
			has[r.Left] = has[r.Left] || plainAll(has, r.Right)
		}
	}), plainClosed(n, func(has []bool) {
		has[x.Start] = true
		for _, r := range x.Rules {
			for _, sym := range r.Right {
				has[sym] = has[sym] || has[r.Left]
			}
		}
	})
	for sym := others; sym < n; sym++ {
		if !worth[sym] || !come[sym] {
			return false
		}
	}
	return plainNotes(x)
}

// plainClosed is what holds of so many symbols behind more passes than there are symbols.
func plainClosed(n int, pass func(has []bool)) []bool {
	has := make([]bool, n)
	for range n + 1 {
		pass(has)
	}
	return has
}

// plainAll tells whether all symbols of a row have something.
func plainAll(has []bool, row []int) bool {
	for _, sym := range row {
		if !has[sym] {
			return false
		}
	}
	return true
}

// plainNotes tells whether a syntax's notes are as the words say.
func plainNotes(x api.Syntax) bool {
	is := func(rule, left int, right ...int) bool {
		return plainIn(rule, 0, len(x.Rules)) && x.Rules[rule].Left == left && (len(right) == 0 && len(x.Rules[rule].Right) == 0 || reflect.DeepEqual(x.Rules[rule].Right, right))
	}
	term := func(sym int) bool { return plainIn(sym, 0, x.Terms) }
	for _, l := range x.Lists {
		if len(l) != 5 || l[0] == l[1] {
			return false
		}
		of := slices.DeleteFunc(slices.Clone(x.Rules), func(r api.Rule) bool { return r.Left != l[0] })
		if len(of) != 2 {
			return false
		}
		with := term(l[2]) && is(l[3], l[0], l[1]) && is(l[4], l[0], l[0], l[2], l[1])
		without := l[2] == -1 && is(l[3], l[0]) && is(l[4], l[0], l[0], l[1])
		if !with && !without {
			return false
		}
	}
	for _, d := range x.Delims {
		if len(d) != 5 || !is(d[0], d[1], d[2], d[3], d[4]) || !term(d[2]) || !term(d[4]) || term(d[3]) {
			return false
		}
	}
	for _, h := range x.Holes {
		if len(h) != 3 || !is(h[0], h[1], h[2]) || !term(h[2]) {
			return false
		}
	}
	return true
}

// plainEmpty is Empty of a syntax that may be.
func plainEmpty(x api.Syntax) []bool {
	return plainClosed(len(x.Names), func(has []bool) {
		for _, r := range x.Rules {
			has[r.Left] = has[r.Left] || plainAll(has, r.Right)
		}
	})
}

// plainReach is all numbers to which a graph's arrows lead from one number, it too.
func plainReach(arrows map[int][]int, from int) map[int]int {
	met, todo := map[int]int{from: 1}, []int{from}
	for ; len(todo) > 0; todo = todo[1:] {
		for _, to := range arrows[todo[0]] {
			if met[to] == 0 {
				met[to] = 1
				todo = append(todo, to)
			}
		}
	}
	return met
}

// plainFirst is First of a syntax that may be: the terms to which the arrows lead that go from each Left to what its right sides may begin with.
func plainFirst(x api.Syntax) [][]int {
	arrows, empty := map[int][]int{}, plainEmpty(x)
	for _, r := range x.Rules {
		for i, sym := range r.Right {
			if plainAll(empty, r.Right[:i]) {
				arrows[r.Left] = append(arrows[r.Left], sym)
			}
		}
	}
	first := make([][]int, len(x.Names))
	for sym := range x.Names {
		met := plainReach(arrows, sym)
		for term := range x.Terms + 1 {
			if met[term] > 0 {
				first[sym] = append(first[sym], term)
			}
		}
	}
	return first
}

// plainFollow is Follow of a syntax that may be: from what each other ends, there are arrows to it; what stands behind those to which one comes back stands behind it.
func plainFollow(x api.Syntax) [][]int {
	arrows, empty, first := map[int][]int{}, plainEmpty(x), plainFirst(x)
	next := make([][]int, len(x.Names)) // right behind each symbol
	next[x.Start] = []int{x.Terms}
	for _, r := range x.Rules {
		for i, sym := range r.Right {
			if plainAll(empty, r.Right[i+1:]) {
				arrows[sym] = append(arrows[sym], r.Left)
			}
			for j := i + 1; j < len(r.Right); j++ {
				if plainAll(empty, r.Right[i+1:j]) {
					next[sym] = append(next[sym], first[r.Right[j]]...)
				}
			}
		}
	}
	follow := make([][]int, len(x.Names))
	for sym := x.Terms + 1; sym < len(x.Names); sym++ {
		for from := range plainReach(arrows, sym) {
			follow[sym] = append(follow[sym], next[from]...)
		}
		slices.Sort(follow[sym])
		follow[sym] = slices.Compact(follow[sym])
	}
	return follow
}

// lean is a list with nil for each list in it that is empty, and for itself; it is new memory.
func lean(l [][]int) [][]int {
	var m [][]int
	for _, row := range l {
		m = append(m, append([]int(nil), row...))
	}
	return m
}

// leanSyntax is a syntax of new memory, with nil for each list that is empty.
func leanSyntax(x api.Syntax) api.Syntax {
	y := api.Syntax{Terms: x.Terms, Start: x.Start, Lists: lean(x.Lists), Delims: lean(x.Delims), Holes: lean(x.Holes)}
	y.Names = append(y.Names, x.Names...)
	y.Of = append(y.Of, x.Of...)
	y.Class = append(y.Class, x.Class...)
	for _, r := range x.Rules {
		y.Rules = append(y.Rules, api.Rule{Left: r.Left, Right: append([]int(nil), r.Right...)})
	}
	return y
}

// same tells whether two syntaxes are the same, and sameLists whether two lists of lists are.
func same(x, y api.Syntax) bool   { return reflect.DeepEqual(leanSyntax(x), leanSyntax(y)) }
func sameLists(l, m [][]int) bool { return reflect.DeepEqual(lean(l), lean(m)) }

// maker makes grammars at random.
type maker struct{ *rand.Rand }

// among is one of some names.
func (m maker) among(names ...string) string { return names[m.Intn(len(names))] }

// grammar is one of few symbols: now and then with faults, and with notes that may fit.
func (m maker) grammar() api.Grammar {
	var g api.Grammar
	for i, name := range []string{"a", "b", "c", "d"}[:m.Intn(5)] {
		t := api.Token{Name: name, Regex: m.among("x", "[a-z]+", "yx*", "a|b"), Skip: m.Intn(8) == 0, Class: m.Intn(10)}
		if m.Intn(60) == 0 {
			t.Regex = m.among("x*", "x?", "()", "a|", "(x?)+")
		}
		if m.Intn(60) == 0 {
			t.Name = m.among("a", "b", "s", "l")
		}
		g.Tokens = slices.Insert(g.Tokens, m.Intn(i+1), t)
	}
	if m.Intn(30) > 0 {
		g.Start = m.among("s", "s", "s", "l", "e")
	}
	if m.Intn(40) == 0 {
		g.Start = m.among("a", "d", "x")
	}
	names := []string{"a", "b", "c", "s", "l", "e"}[m.Intn(3):]
	for range m.Intn(4) {
		p := api.Prod{Left: m.among("s", "l", "e")}
		for range m.Intn(4) {
			p.Right = append(p.Right, m.among(names...))
		}
		g.Prods = append(g.Prods, p)
	}
	for range m.Intn(3) {
		m.noted(&g)
	}
	m.Shuffle(len(g.Prods), func(i, j int) { g.Prods[i], g.Prods[j] = g.Prods[j], g.Prods[i] })
	if m.Intn(60) == 0 && len(g.Prods) > 0 {
		p := &g.Prods[m.Intn(len(g.Prods))]
		p.Right = append(p.Right, m.among("d", "x", "w"))
	}
	return g
}

// noted puts a note into a grammar, and most times the productions that it asks for.
func (m maker) noted(g *api.Grammar) {
	n, prods := api.Note{}, []api.Prod{}
	switch m.Intn(4) {
	case 0:
		list, item := m.among("s", "l", "e"), m.among("a", "e", "s", "b")
		n = api.Note{Kind: api.List, Args: []string{list, item}}
		prods = []api.Prod{{Left: list}, {Left: list, Right: []string{list, item}}}
	case 1:
		list, item, between := m.among("s", "l", "e"), m.among("a", "e", "s", "b"), m.among("b", "c", "a", "s")
		n = api.Note{Kind: api.List, Args: []string{list, item, between}}
		prods = []api.Prod{{Left: list, Right: []string{item}}, {Left: list, Right: []string{list, between, item}}}
	case 2:
		args := []string{m.among("s", "s", "e", "a"), m.among("a", "a", "b", "e"), m.among("l", "s", "s", "c"), m.among("a", "b", "b", "s")}
		n = api.Note{Kind: api.Delim, Args: args}
		prods = []api.Prod{{Left: args[0], Right: slices.Clone(args[1:])}}
	case 3:
		args := []string{m.among("s", "e", "l", "a"), m.among("a", "b", "e")}
		n = api.Note{Kind: api.Hole, Args: args}
		prods = []api.Prod{{Left: args[0], Right: slices.Clone(args[1:])}}
	}
	g.Notes = append(g.Notes, n)
	for _, p := range prods {
		if m.Intn(20) > 0 && p.Left != "a" {
			g.Prods = append(g.Prods, p)
		}
	}
	if m.Intn(30) == 0 {
		n.Args[m.Intn(len(n.Args))] = m.among("x", "d", "l")
	}
}

// syntax is one of so many terms, others and rules at most; most times it may be.
func (m maker) syntax(terms, others, rules int) api.Syntax {
	x := api.Syntax{Terms: 1 + m.Intn(terms)}
	x.Names = make([]string, x.Terms+2+m.Intn(others))
	x.Class = make([]int, x.Terms)
	n := len(x.Names)
	other := func() int { return x.Terms + 1 + m.Intn(n-x.Terms-1) }
	x.Start = other()
	for i := range 1 + m.Intn(rules) {
		r := api.Rule{Left: other()}
		if left := x.Terms + 1 + i; left < n {
			r.Left = left
		}
		for range m.Intn(4) {
			sym := m.Intn(n)
			if m.Intn(3) == 0 {
				sym = other()
			}
			if sym != x.Terms {
				r.Right = append(r.Right, sym)
			}
		}
		x.Rules = append(x.Rules, r)
	}
	return x
}
