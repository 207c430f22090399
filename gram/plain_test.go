package gram

import (
	"fmt"
	"math/rand"
	"reflect"
	"regexp"
	"slices"
	"strings"
	"testing"
	"unicode/utf8"

	"pleacher/api"
)

// This file has the chapter's words as they stand, read another way than the package does: lines, words and names are told by expressions of the library.

var (
	plainName    = regexp.MustCompile(`\A[a-zA-Z][a-zA-Z0-9_]{0,15}\z`)
	plainNothing = regexp.MustCompile(`(?s)\A *(#.*)?\z`)
	plainToken   = regexp.MustCompile(`(?s)\A *(token|skip) +([^ ]+) (.+)\z`)
	plainClass   = regexp.MustCompile(`(?s)\A *class +([^ ]+) +([1-9]) *\z`)
	plainStart   = regexp.MustCompile(`(?s)\A *start +([^ ]+) *\z`)
	plainRule    = regexp.MustCompile(`(?s)\A *rule +([^ ]+) +:((?: +[^ ]+)*) *\z`)
	plainNote    = regexp.MustCompile(`(?s)\A *(list|delim|hole)((?: +[^ ]+)+) *\z`)
	plainWord    = regexp.MustCompile(`[^ ]+`)
)

// plainNames tells whether all words are names.
func plainNames(words ...string) bool {
	for _, w := range words {
		if !plainName.MatchString(w) {
			return false
		}
	}
	return true
}

// plainArgs has how many Args each kind of notes has.
var plainArgs = map[string][]int{"list": {2, 3}, "delim": {4}, "hole": {2}}

// plainKinds has each kind's word.
var plainKinds = map[string]byte{"list": api.List, "delim": api.Delim, "hole": api.Hole}

// plainLine adds to a grammar what a line says.
func plainLine(g *api.Grammar, line string) api.Errno {
	if plainNothing.MatchString(line) {
		return api.OK
	}
	if m := plainToken.FindStringSubmatch(line); m != nil {
		if !plainNames(m[2]) {
			return api.ErrName
		}
		g.Tokens = append(g.Tokens, api.Token{Name: m[2], Regex: m[3], Skip: m[1] == "skip"})
		return tooMany(len(g.Tokens) > 32)
	}
	if m := plainClass.FindStringSubmatch(line); m != nil {
		told := -1
		for i, t := range g.Tokens {
			if t.Name == m[1] {
				told = i
			}
		}
		if told < 0 {
			return api.ErrName
		}
		g.Tokens[told].Class = strings.Index("0123456789", m[2])
		return api.OK
	}
	if m := plainStart.FindStringSubmatch(line); m != nil {
		if !plainNames(m[1]) {
			return api.ErrName
		}
		if g.Start != "" {
			return api.ErrTwice
		}
		g.Start = m[1]
		return api.OK
	}
	if m := plainRule.FindStringSubmatch(line); m != nil {
		names := plainWord.FindAllString(m[2], -1)
		if !plainNames(m[1]) || !plainNames(names...) {
			return api.ErrName
		}
		g.Prods = append(g.Prods, api.Prod{Left: m[1], Right: names})
		return tooMany(len(g.Prods) > 64 || len(names) > 8)
	}
	if m := plainNote.FindStringSubmatch(line); m != nil {
		args := plainWord.FindAllString(m[2], -1)
		if slices.Contains(plainArgs[m[1]], len(args)) {
			if !plainNames(args...) {
				return api.ErrName
			}
			g.Notes = append(g.Notes, api.Note{Kind: plainKinds[m[1]], Args: args})
			return tooMany(len(g.Notes) > 16)
		}
	}
	return api.ErrForm
}

// tooMany is ErrBig, if there are.
func tooMany(yes bool) api.Errno {
	if yes {
		return api.ErrBig
	}
	return api.OK
}

// plainRead is a description's grammar.
func plainRead(s string) (api.Grammar, api.Errno) {
	if len(s) > 4000 {
		return api.Grammar{}, api.ErrLimit
	}
	if !utf8.ValidString(s) {
		return api.Grammar{}, api.ErrText
	}
	var g api.Grammar
	for _, line := range strings.Split(s, "\n") {
		if e := plainLine(&g, line); e != api.OK {
			return api.Grammar{}, e
		}
	}
	return g, api.OK
}

// plainRight tells whether a grammar may be.
func plainRight(g api.Grammar) bool {
	ok := len(g.Tokens) <= 32 && len(g.Prods) <= 64 && len(g.Notes) <= 16 && (g.Start == "" || plainNames(g.Start))
	for _, t := range g.Tokens {
		ok = ok && plainNames(t.Name) && len(t.Regex) > 0 && !strings.ContainsRune(t.Regex, 10) && utf8.ValidString(t.Regex) && t.Class >= 0 && t.Class <= 9
	}
	for _, p := range g.Prods {
		ok = ok && plainNames(p.Left) && plainNames(p.Right...) && len(p.Right) <= 8
	}
	for _, n := range g.Notes {
		kind := false
		for word, k := range plainKinds {
			kind = kind || k == n.Kind && slices.Contains(plainArgs[word], len(n.Args))
		}
		ok = ok && kind && plainNames(n.Args...)
	}
	return ok
}

// plainText is the text of a grammar that may be, however long.
func plainText(g api.Grammar) string {
	s := ""
	for _, t := range g.Tokens {
		s += fmt.Sprintf("%s %s %s\n", map[bool]string{false: "token", true: "skip"}[t.Skip], t.Name, t.Regex)
		if t.Class != 0 {
			s += fmt.Sprintf("class %s %d\n", t.Name, t.Class)
		}
	}
	if g.Start != "" {
		s += fmt.Sprintf("start %s\n", g.Start)
	}
	for _, p := range g.Prods {
		s += fmt.Sprintf("rule %s :", p.Left)
		for _, name := range p.Right {
			s += " " + name
		}
		s += "\n"
	}
	for _, n := range g.Notes {
		for word, k := range plainKinds {
			if k == n.Kind {
				s += word
			}
		}
		for _, name := range n.Args {
			s += " " + name
		}
		s += "\n"
	}
	return s
}

// lean is a grammar with nil for each list that is empty; it is new memory.
func lean(g api.Grammar) api.Grammar {
	l := api.Grammar{Start: g.Start, Tokens: append([]api.Token(nil), g.Tokens...)}
	for _, p := range g.Prods {
		l.Prods = append(l.Prods, api.Prod{Left: p.Left, Right: append([]string(nil), p.Right...)})
	}
	for _, n := range g.Notes {
		l.Notes = append(l.Notes, api.Note{Kind: n.Kind, Args: append([]string(nil), n.Args...)})
	}
	return l
}

// same tells whether two grammars are the same.
func same(g, h api.Grammar) bool {
	return reflect.DeepEqual(lean(g), lean(h))
}

// reads holds Read of a text against a grammar.
func reads(t *testing.T, s string, want api.Grammar) {
	t.Helper()
	if g, e := Read(s); e != api.OK || !same(g, want) {
		t.Errorf("%.60q: %v, %d, want %v", s, g, e, want)
	}
	if g, e := plainRead(s); e != api.OK || !same(g, want) {
		t.Errorf("%.60q: the words say %v, %d, not %v", s, g, e, want)
	}
}

// refuses holds Read of a text against an error.
func refuses(t *testing.T, s string, want api.Errno) {
	t.Helper()
	if g, e := Read(s); e != want || !reflect.DeepEqual(g, api.Grammar{}) {
		t.Errorf("%.60q: %v, %d, want %d", s, g, e, want)
	}
	if _, e := plainRead(s); e != want {
		t.Errorf("%.60q: the words say %d, not %d", s, e, want)
	}
}

// writes holds Text of a grammar, which may be, against a text.
func writes(t *testing.T, g api.Grammar, want string) {
	t.Helper()
	if s, e := Text(g); e != api.OK || s != want {
		t.Errorf("%v: %.60q, %d, want %.60q", g, s, e, want)
	}
	if !Right(g) {
		t.Errorf("%v: may not be", g)
	}
	if !plainRight(g) || plainText(g) != want {
		t.Errorf("%v: the words say %v, %.60q, not %.60q", g, plainRight(g), plainText(g), want)
	}
}

// mayNot holds a grammar that may not be against Right and Text.
func mayNot(t *testing.T, name string, g api.Grammar) {
	t.Helper()
	if Right(g) {
		t.Errorf("%s: %.80v: may be", name, g)
	}
	if s, e := Text(g); s != "" || e != api.ErrArg {
		t.Errorf("%s: %.60q, %d", name, s, e)
	}
	if plainRight(g) {
		t.Errorf("%s: the words say that it may be", name)
	}
}

// someNames are names, and texts beside them that are none.
func someNames(wrong bool) []string {
	l := []string{"a", "b", "s", "Z", "a1", "x_", "token", "skip", "rule", "abcdefghijklmnop"}
	if wrong {
		l = append(l, "", "1", "_", "_a", "é", "aé", "a-", ":", "#", "a b", "a\n", "\xff", "abcdefghijklmnopq")
	}
	return l
}

// maker makes grammars; wrong ones, too, if it is so.
type maker struct {
	*rand.Rand
	wrong bool
}

// some is one of some texts.
func (m maker) some(l ...string) string { return l[m.Intn(len(l))] }

// name is some name; seldom none, if wrong ones are made.
func (m maker) name() string {
	return m.some(someNames(m.wrong && m.Intn(60) == 0)...)
}

// names are so many names.
func (m maker) names(n int) []string {
	var l []string
	for range n {
		l = append(l, m.name())
	}
	return l
}

// off is now and then 1 or -1, if wrong ones are made.
func (m maker) off() int {
	if m.wrong && m.Intn(60) == 0 {
		return 2*m.Intn(2) - 1
	}
	return 0
}

// grammar is some grammar, of at most so many of each thing.
func (m maker) grammar(most int) api.Grammar {
	var g api.Grammar
	if m.Intn(3) > 0 {
		g.Start = m.name()
	}
	for range m.Intn(most + 1) {
		x := m.some("a", " ", " a", "a ", "  ", "# b", "é", "[0-9]+", "\t", "a\r", "\x00", ":", "a b  c", strings.Repeat("xy", 400))
		if m.wrong && m.Intn(60) == 0 {
			x = m.some("", "a\nb", "\n", "\x80", "a\xe2\x82")
		}
		g.Tokens = append(g.Tokens, api.Token{Name: m.name(), Regex: x, Skip: m.Intn(2) == 0, Class: m.Intn(10) * (1 + 10*m.off())})
	}
	for range m.Intn(most + 1) {
		g.Prods = append(g.Prods, api.Prod{Left: m.name(), Right: m.names(m.Intn(9) + max(0, m.off()))})
	}
	for range m.Intn(most + 1) {
		n := api.Note{Kind: byte(1 + m.Intn(3))}
		n.Args = m.names([]int{2 + m.Intn(2), 4, 2}[n.Kind-1] + m.off())
		n.Kind += byte(m.off())
		g.Notes = append(g.Notes, n)
	}
	return g
}
