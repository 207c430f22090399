package symbols

import (
	"math/rand"
	"reflect"
	"slices"
	"strconv"
	"strings"
	"testing"
	"unsafe"

	"pleacher/api"
	"pleacher/gram"
	"pleacher/regex"
)

// read is the grammar of a description's lines, which stand with ; between.
func read(t *testing.T, lines string) api.Grammar {
	t.Helper()
	g, e := gram.Read(strings.ReplaceAll(lines, ";", "\n"))
	if e != api.OK {
		t.Fatalf("%s: no description: %d", lines, e)
	}
	return g
}

// made is the syntax of a description that has one.
func made(t *testing.T, lines string) api.Syntax {
	t.Helper()
	x, e := Resolve(read(t, lines))
	if e != api.OK {
		t.Fatalf("%s: %d", lines, e)
	}
	return x
}

// resolves holds a description's syntax against one.
func resolves(t *testing.T, lines string, want api.Syntax) {
	t.Helper()
	if x, e := Resolve(read(t, lines)); e != api.OK || !same(x, want) || !Right(x) {
		t.Errorf("%s:\n%+v, %d, %v, want\n%+v", lines, x, e, Right(x), want)
	}
}

// refuses holds a description's error against one.
func refuses(t *testing.T, lines string, want api.Errno) {
	t.Helper()
	refused(t, lines, read(t, lines), want)
}

// refused holds a grammar's error against one.
func refused(t *testing.T, name string, g api.Grammar, want api.Errno) {
	t.Helper()
	if x, e := Resolve(g); e != want || want != api.OK && !reflect.DeepEqual(x, api.Syntax{}) {
		t.Errorf("%s: %+v, %d, want %d", name, x, e, want)
	}
}

// rule is a rule by numbers.
func rule(left int, right ...int) api.Rule { return api.Rule{Left: left, Right: right} }

func TestP111Example(t *testing.T) {
	resolves(t, "token n n;start s;rule s : e s;rule s :;rule e : n", api.Syntax{
		Names: []string{"n", "", "s", "e"}, Terms: 1, Start: 2, Of: []int{0}, Class: []int{0},
		Rules: []api.Rule{rule(2, 3, 2), rule(2), rule(3, 0)},
	})
}

// whole is a description with each thing that a syntax has.
const whole = "skip w  +;token o \\(;skip v #;token c \\);class c 2;class w 7;token a [a-z]+;class a 9;token h _;token m ,;skip u %;" +
	"start s;rule e : o l c;rule s : s l;rule s :;rule l : l m e;rule e : o p c;rule l : e;rule p : h;rule e : h;rule e : a;rule p : p p;" +
	"hole p h;list s l;delim e o l c;list l e m;hole e h;delim e o p c;hole e a"

func wholeSyntax() api.Syntax {
	return api.Syntax{
		Names: []string{"o", "c", "a", "h", "m", "", "e", "s", "l", "p"}, Terms: 5, Start: 7,
		Of: []int{-1, 0, -1, 1, 2, 3, 4, -1}, Class: []int{0, 2, 9, 0, 0},
		Rules:  []api.Rule{rule(6, 0, 8, 1), rule(7, 7, 8), rule(7), rule(8, 8, 4, 6), rule(6, 0, 9, 1), rule(8, 6), rule(9, 3), rule(6, 3), rule(6, 2), rule(9, 9, 9)},
		Lists:  [][]int{{7, 8, -1, 2, 1}, {8, 6, 4, 5, 3}},
		Delims: [][]int{{0, 6, 0, 8, 1}, {4, 6, 0, 9, 1}},
		Holes:  [][]int{{6, 9, 3}, {7, 6, 3}, {8, 6, 2}},
	}
}

// TestP111Numbers: ordinary grammars, number by number.
func TestP111Numbers(t *testing.T) {
	resolves(t, whole, wholeSyntax())
	resolves(t, "token a a;start s;rule s : a", api.Syntax{Names: []string{"a", "", "s"}, Terms: 1, Start: 2, Of: []int{0}, Class: []int{0}, Rules: []api.Rule{rule(2, 0)}})
	resolves(t, "token a a;start s;rule s :", api.Syntax{Names: []string{"a", "", "s"}, Terms: 1, Start: 2, Of: []int{0}, Class: []int{0}, Rules: []api.Rule{rule(2)}})
	resolves(t, "skip x x;skip y y;token a a;skip z z;token b b;start s;rule t : b;rule r :;rule s : t r;rule t : r r", api.Syntax{
		Names: []string{"a", "b", "", "t", "r", "s"}, Terms: 2, Start: 5, Of: []int{-1, -1, 0, -1, 1}, Class: []int{0, 0},
		Rules: []api.Rule{rule(3, 1), rule(4), rule(5, 3, 4), rule(3, 4, 4)},
	})
	// The others come as Lefts do, wherever right sides and Start name them.
	resolves(t, "token b b;token a a;start u;rule t : u s;rule s : a b;rule u : b;rule u : t", api.Syntax{
		Names: []string{"b", "a", "", "t", "s", "u"}, Terms: 2, Start: 5, Of: []int{0, 1}, Class: []int{0, 0},
		Rules: []api.Rule{rule(3, 5, 4), rule(4, 1, 0), rule(5, 0), rule(5, 3)},
	})
	// Two rules that are the same are two.
	resolves(t, "token a a;start s;rule s : a;rule s : a;hole s a", api.Syntax{Names: []string{"a", "", "s"}, Terms: 1, Start: 2, Of: []int{0}, Class: []int{0}, Rules: []api.Rule{rule(2, 0), rule(2, 0)}, Holes: [][]int{{0, 2, 0}}})
	// One expression twice is nothing to names; nor is what a name is.
	resolves(t, "token rule a;token start a;start token;rule token : rule start token;rule token :", api.Syntax{
		Names: []string{"rule", "start", "", "token"}, Terms: 2, Start: 3, Of: []int{0, 1}, Class: []int{0, 0}, Rules: []api.Rule{rule(3, 0, 1, 3), rule(3)},
	})
}

// TestP111Most: as many of each thing as may be.
func TestP111Most(t *testing.T) {
	g := api.Grammar{Start: "s0"}
	want := api.Syntax{Terms: 32, Start: 33}
	for i := range 32 {
		name := "t" + strconv.Itoa(i)
		g.Tokens = append(g.Tokens, api.Token{Name: name, Regex: "a", Class: i % 10})
		want.Names, want.Of, want.Class = append(want.Names, name), append(want.Of, i), append(want.Class, i%10)
	}
	want.Names = append(want.Names, "")
	for i := range 64 {
		next := []string{"s" + strconv.Itoa(i+1), "t0", "t1", "t2", "t3", "t4", "t5", "t31"}
		right := []int{33 + i + 1, 0, 1, 2, 3, 4, 5, 31}
		if i == 63 {
			next, right = []string{"t0"}, []int{0}
		}
		g.Prods = append(g.Prods, api.Prod{Left: "s" + strconv.Itoa(i), Right: next})
		want.Names, want.Rules = append(want.Names, "s"+strconv.Itoa(i)), append(want.Rules, rule(33+i, right...))
	}
	for range 16 {
		g.Notes = append(g.Notes, api.Note{Kind: api.Hole, Args: []string{"s63", "t0"}})
		want.Holes = append(want.Holes, []int{63, 96, 0})
	}
	if x, e := Resolve(g); e != api.OK || !same(x, want) || !Right(x) {
		t.Errorf("%+v, %d, want %+v", x, e, want)
	}
	// One token of 32 that isn't skipped, the last one.
	for i := range 31 {
		g.Tokens[i].Skip = true
	}
	g.Prods = []api.Prod{{Left: "s0", Right: []string{"t31"}}}
	g.Notes = nil
	if x, e := Resolve(g); e != api.OK || x.Terms != 1 || x.Of[31] != 0 || x.Of[30] != -1 || len(x.Of) != 32 || !slices.Equal(x.Class, []int{1}) {
		t.Errorf("%+v, %d", x, e)
	}
	// All that may be worth something only by turns, from the last one to the first.
	g.Prods = nil
	for i := range 64 {
		g.Prods = append(g.Prods, api.Prod{Left: "s" + strconv.Itoa(i), Right: []string{"s" + strconv.Itoa((i+1)%64)}})
	}
	refused(t, "a ring of 64", g, api.ErrUseless)
	g.Prods[63].Right = []string{"t31"}
	refused(t, "a chain of 64", g, api.OK)
	slices.Reverse(g.Prods)
	refused(t, "a chain of 64, from its end", g, api.OK)
	g.Start = "s1"
	refused(t, "a chain of 64, from its second one", g, api.ErrUseless)
}

// TestP111Errors: each error by itself.
func TestP111Errors(t *testing.T) {
	const rest = ";start s;rule s : a"
	for lines, want := range map[string]api.Errno{
		// What must be there.
		"":                                    api.ErrEmpty,
		"start s;rule s :":                    api.ErrEmpty,
		"skip a a;start s;rule s :":           api.ErrEmpty,
		"skip a a;skip b b;start s;rule s :":  api.ErrEmpty,
		"token a a;start s":                   api.ErrEmpty,
		"token a a;start s;hole s a":          api.ErrEmpty,
		"token a a;rule s : a":                api.ErrEmpty,
		"token a a":                           api.ErrEmpty,
		"token a a;skip w w" + rest:           api.OK,
		"skip w w;token a a;start s;rule s :": api.OK,

		// Names that are there twice.
		"token a a;token a b" + rest:                         api.ErrTwice,
		"token a a;token b b;token a c" + rest:               api.ErrTwice,
		"token a a;skip a b" + rest:                          api.ErrTwice,
		"skip a a;token a b" + rest:                          api.ErrTwice,
		"token a a;skip w b;skip w c" + rest:                 api.ErrTwice,
		"token a a;token b b;token b b" + rest:               api.ErrTwice,
		"token a a;token s s" + rest:                         api.ErrTwice,
		"token a a;skip s s" + rest:                          api.ErrTwice,
		"token a a;token t t" + rest + ";rule t : a":         api.ErrTwice,
		"token a a;skip t t;start s;rule s : a;rule t : a":   api.ErrTwice,
		"token a a;token b b;start s;rule s : a;rule a : b":  api.ErrTwice,
		"token a a;start a;rule a : a":                       api.ErrTwice,
		"token a a;token A a" + rest:                         api.OK,
		"token a a;token aa a;token a_ a" + rest:             api.OK,
		"token a a;start s;rule s : a;rule s : a;rule s : a": api.OK,

		// Expressions.
		"token a (" + rest:                                         api.ErrRegex,
		"token a [b-a]" + rest:                                     api.ErrRegex,
		"token a *" + rest:                                         api.ErrRegex,
		"token a a;token b )" + rest:                               api.ErrRegex,
		"token a a;skip w [" + rest:                                api.ErrRegex,
		"skip w a\\q;token a a" + rest + ";rule s : s a":           api.ErrRegex,
		"token a " + strings.Repeat("a", 101) + rest:               api.ErrBig,
		"token a " + strings.Repeat("(", 101) + rest:               api.ErrBig,
		"token a " + strings.Repeat("a", 100) + rest:               api.OK,
		"token a a++++++++" + rest:                                 api.ErrBig,
		"token a a;skip w a++++++++" + rest:                        api.ErrBig,
		"token a a;skip w " + strings.Repeat("b", 101) + rest:      api.ErrBig,
		"token a a;token b (;token c a++++++++" + rest:             api.ErrRegex,
		"token a a;token b a++++++++;token c (" + rest:             api.ErrBig,
		"skip w (;token a a++++++++" + rest:                        api.ErrRegex,
		"skip w " + strings.Repeat("b", 101) + ";token a (" + rest: api.ErrBig,
		"token a a;token b " + strings.Repeat("(", 58) + "a" + strings.Repeat(")", 39) + "" + rest: api.ErrRegex,

		// Tokens that may be empty.
		"token a a*" + rest:                        api.ErrEmpty,
		"token a a?" + rest:                        api.ErrEmpty,
		"token a ()" + rest:                        api.ErrEmpty,
		"token a a|" + rest:                        api.ErrEmpty,
		"token a |a" + rest:                        api.ErrEmpty,
		"token a a|b*" + rest:                      api.ErrEmpty,
		"token a a*b?" + rest:                      api.ErrEmpty,
		"token a (a*)+" + rest:                     api.ErrEmpty,
		"token a a;token b b;token c c*" + rest:    api.ErrEmpty,
		"token a a;skip w w*" + rest:               api.ErrEmpty,
		"skip w w?;token a a;token b b" + rest:     api.ErrEmpty,
		"token a a+;skip w w*w;token b ab?" + rest: api.OK,
	} {
		refuses(t, lines, want)
	}
}

// TestP111Arg: grammars that may not be.
func TestP111Arg(t *testing.T) {
	for name, change := range map[string]func(g *api.Grammar){
		"a class of -1":         func(g *api.Grammar) { g.Tokens[2].Class = -1 },
		"a class of 10":         func(g *api.Grammar) { g.Tokens[2].Class = 10 },
		"a token's name":        func(g *api.Grammar) { g.Tokens[0].Name = "1" },
		"a name of 17 signs":    func(g *api.Grammar) { g.Tokens[0].Name = strings.Repeat("w", 17) },
		"no expression":         func(g *api.Grammar) { g.Tokens[0].Regex = "" },
		"a line feed":           func(g *api.Grammar) { g.Tokens[0].Regex = "a\n" },
		"not whole":             func(g *api.Grammar) { g.Tokens[0].Regex = "\xff" },
		"the start's name":      func(g *api.Grammar) { g.Start = "s-" },
		"a Left's name":         func(g *api.Grammar) { g.Prods[1].Left = "" },
		"a right side's name":   func(g *api.Grammar) { g.Prods[0].Right[1] = "" },
		"9 on a right side":     func(g *api.Grammar) { g.Prods[0].Right = slices.Repeat([]string{"a"}, 9) },
		"a note's name":         func(g *api.Grammar) { g.Notes[0].Args[1] = "" },
		"a note's kind":         func(g *api.Grammar) { g.Notes[0].Kind = 4 },
		"a note without kind":   func(g *api.Grammar) { g.Notes[0].Kind = 0 },
		"a note's few Args":     func(g *api.Grammar) { g.Notes[0].Args = g.Notes[0].Args[:1] },
		"a note's many Args":    func(g *api.Grammar) { g.Notes[0].Args = []string{"p", "h", "h"} },
		"33 tokens":             func(g *api.Grammar) { g.Tokens = append(g.Tokens, slices.Repeat(g.Tokens[:1], 25)...) },
		"65 productions":        func(g *api.Grammar) { g.Prods = append(g.Prods, slices.Repeat(g.Prods[:1], 55)...) },
		"17 notes":              func(g *api.Grammar) { g.Notes = append(g.Notes, slices.Repeat(g.Notes[:1], 10)...) },
		"a zero token":          func(g *api.Grammar) { g.Tokens = append(g.Tokens, api.Token{}) },
		"a zero production":     func(g *api.Grammar) { g.Prods = append(g.Prods, api.Prod{}) },
		"a zero note":           func(g *api.Grammar) { g.Notes = append(g.Notes, api.Note{}) },
		"a name with the end's": func(g *api.Grammar) { g.Prods[3].Right = append(g.Prods[3].Right, "") },
	} {
		g := read(t, whole)
		change(&g)
		refused(t, name, g, api.ErrArg)
		// Ahead of all other faults.
		g.Prods = append(g.Prods, api.Prod{Left: "w"}, api.Prod{Left: "x", Right: []string{"y"}})
		g.Tokens[3].Regex = "("
		refused(t, name+" and more", g, api.ErrArg)
	}
}

// TestP111Names: names that are no symbol's.
func TestP111Names(t *testing.T) {
	refuses(t, whole+";hole e c", api.ErrNote)
	for _, no := range []string{"x", "w", "u", "S", "sp", "s0", "abcdefghijklmnop"} {
		for at := range 10 {
			g := read(t, whole)
			for i := range g.Prods[at].Right {
				g := read(t, whole)
				g.Prods[at].Right[i] = no
				refused(t, no+" on a right side", g, api.ErrName)
			}
			g.Prods[at].Right = append(g.Prods[at].Right, no)
			refused(t, no+" at a right side's end", g, api.ErrName)
		}
		for at := range 7 {
			for i := range read(t, whole).Notes[at].Args {
				g := read(t, whole)
				g.Notes[at].Args[i] = no
				refused(t, no+" in the note "+strconv.Itoa(at), g, api.ErrName)
			}
		}
		g := read(t, whole)
		g.Start = no
		refused(t, no+" as the start", g, api.ErrName)
	}
	for _, no := range []string{"o", "c", "a", "h", "m", "w", "v", "u"} {
		g := read(t, whole)
		g.Start = no
		refused(t, no+" as the start", g, api.ErrName)
	}
}

// TestP111Useless: others that are worth nothing, or aren't come to.
func TestP111Useless(t *testing.T) {
	for rules, want := range map[string]api.Errno{
		"rule s : s":                                                 api.ErrUseless,
		"rule s : s a":                                               api.ErrUseless,
		"rule s : a s":                                               api.ErrUseless,
		"rule s : a s;rule s : s s":                                  api.ErrUseless,
		"rule s : a s;rule s :":                                      api.OK,
		"rule s : s;rule s : a":                                      api.OK,
		"rule s : a;rule s : t;rule t : t":                           api.ErrUseless,
		"rule s : a;rule s : t;rule t : t a":                         api.ErrUseless,
		"rule s : a;rule s : t;rule t : u;rule u : t":                api.ErrUseless,
		"rule s : t;rule t : s":                                      api.ErrUseless,
		"rule s : t;rule t : u;rule u : s":                           api.ErrUseless,
		"rule s : t;rule t : u;rule u : s;rule t : a":                api.OK,
		"rule s : t;rule t : u;rule u : s;rule u :":                  api.OK,
		"rule u : s;rule u : a;rule t : u;rule s : t":                api.OK,
		"rule s : a;rule t : a":                                      api.ErrUseless,
		"rule t : a;rule s : a":                                      api.ErrUseless,
		"rule s : a;rule t : s":                                      api.ErrUseless,
		"rule s : a;rule t : t;rule t : a":                           api.ErrUseless,
		"rule s : a;rule t : u;rule u : t;rule u : a":                api.ErrUseless,
		"rule s : a;rule t : u;rule u : s t;rule u : a":              api.ErrUseless,
		"rule s : a;rule s : s t;rule t : u;rule u : t a;rule u : a": api.OK,
		"rule t : a;rule s : u;rule u : t":                           api.OK,
		"rule s : t u;rule t : a;rule u : u":                         api.ErrUseless,
		"rule s : t u;rule u : a;rule t : t":                         api.ErrUseless,
		"rule s : t u;rule s : a;rule u : a;rule t : t":              api.ErrUseless,
		// Come to by a rule that nothing comes of.
		"rule s : a;rule s : t u;rule t : a;rule u : u;rule u : t": api.OK,
		"rule s : a;rule s : t u;rule t : a;rule u : u t":          api.ErrUseless,
	} {
		refuses(t, "token a a;start s;"+rules, want)
		refuses(t, "skip w w;token a a;token b b;start s;"+rules, want)
	}
}

// TestP111Notes: notes of each kind, as the words say, and not.
func TestP111Notes(t *testing.T) {
	const tokens = "token a a;token b b;token o o;token c c;start s;"
	for lines, want := range map[string]api.Errno{
		// Lists without a token between.
		"rule s :;rule s : s a;list s a":                   api.OK,
		"rule s : s a;rule s :;list s a":                   api.OK,
		"rule s :;rule s : s e;rule e : a;list s e":        api.OK,
		"rule s :;list s a":                                api.ErrNote,
		"rule s : a;list s a":                              api.ErrNote,
		"rule s : s a;rule s : s a;rule s :;list s a":      api.ErrNote,
		"rule s :;rule s :;list s a":                       api.ErrNote,
		"rule s :;rule s : s a;rule s :;list s a":          api.ErrNote,
		"rule s :;rule s : s a;rule s : b;list s a":        api.ErrNote,
		"rule s :;rule s : s b;list s a":                   api.ErrNote,
		"rule s : a;rule s : s a;list s a":                 api.ErrNote,
		"rule s :;rule s : a s;list s a":                   api.ErrNote,
		"rule s :;rule s : a;list s a":                     api.ErrNote,
		"rule s :;rule s : s s;list s s":                   api.ErrNote,
		"rule s :;rule s : s a b;list s a":                 api.ErrNote,
		"rule s :;rule s : s a;list a s":                   api.ErrNote,
		"rule s :;rule s : s a;list a b":                   api.ErrNote,
		"rule s :;rule s : s a;list a a":                   api.ErrNote,
		"rule s :;rule s : s e;rule e : a;list e s":        api.ErrNote,
		"rule s : a t;rule t :;rule t : t a;list t a":      api.OK,
		"rule s : a t;rule t :;rule t : t s;list t s":      api.OK,
		"rule s : a t;rule t :;rule t : t s;list s t":      api.ErrNote,
		"rule s :;rule s : s a;list s a;list s a;list s a": api.OK,
		"rule s :;rule s : s a;list s a;list s b;list s a": api.ErrNote,
		"rule s :;rule s : s a;list s b;list s a;hole s a": api.ErrNote,
		// Lists with one.
		"rule s : a;rule s : s b a;list s a b":                api.OK,
		"rule s : s b a;rule s : a;list s a b":                api.OK,
		"rule s : a;rule s : s a a;list s a a":                api.OK,
		"rule s : e;rule s : s b e;rule e : a;list s e b":     api.OK,
		"rule s : e;rule s : s e e;rule e : a;list s e e":     api.ErrNote,
		"rule s : a;rule s : s t a;rule t : b;list s a t":     api.ErrNote,
		"rule s : a;rule s : s s a;list s a s":                api.ErrNote,
		"rule s : a;list s a b":                               api.ErrNote,
		"rule s : a;rule s : a;list s a b":                    api.ErrNote,
		"rule s : a;rule s : s b a;rule s : c;list s a b":     api.ErrNote,
		"rule s : a;rule s : s b a;rule s : a;list s a b":     api.ErrNote,
		"rule s : a;rule s : s b a;rule s : s b a;list s a b": api.ErrNote,
		"rule s : a;rule s : s b a;rule s :;list s a b":       api.ErrNote,
		"rule s :;rule s : s b a;list s a b":                  api.ErrNote,
		"rule s : a;rule s : s a;list s a b":                  api.ErrNote,
		"rule s : a;rule s : s c a;list s a b":                api.ErrNote,
		"rule s : a;rule s : a b s;list s a b":                api.ErrNote,
		"rule s : a;rule s : s a b;list s a b":                api.ErrNote,
		"rule s : c;rule s : s b a;list s a b":                api.ErrNote,
		"rule s : a;rule s : s b c;list s a b":                api.ErrNote,
		"rule s : a;rule s : s b s;list s s b":                api.ErrNote,
		"rule s : a;rule s : s b a;list s a":                  api.ErrNote,
		"rule s : a;rule s : s b a;list s b a":                api.ErrNote,
		"rule s : a;rule s : s b a;list a s b":                api.ErrNote,
		"rule s : a;rule s : s b a;list b a s":                api.ErrNote,
		"rule s :;rule s : s a;list s a b":                    api.ErrNote,
		"rule s : a a;rule s : s b a a;list s a b":            api.ErrNote,
		"rule s : a;rule s : s b a;list s a b;list s a b":     api.OK,
		"rule s : a;rule s : s b a;list s a b;list s a c":     api.ErrNote,
		// Delims.
		"rule s : o l c;rule l : a;delim s o l c":                   api.OK,
		"rule s : o l o;rule l : a;delim s o l o":                   api.OK,
		"rule s : a;rule s : o s c;delim s o s c":                   api.OK,
		"rule s : a;rule s : o l c;rule l : s;delim s o l c":        api.OK,
		"rule s : o l c a;rule l : a;delim s o l c":                 api.ErrNote,
		"rule s : o l;rule l : a;delim s o l c":                     api.ErrNote,
		"rule s : c l o;rule l : a;delim s o l c":                   api.ErrNote,
		"rule s : o a c;delim s o a c":                              api.ErrNote,
		"rule s : l l c;rule l : a;delim s l l c":                   api.ErrNote,
		"rule s : o l l;rule l : a;delim s o l l":                   api.ErrNote,
		"rule s : l a l;rule l : a;delim s l a l":                   api.ErrNote,
		"rule s : o l c;rule l : a;delim l o l c":                   api.ErrNote,
		"rule s : o l c;rule l : a;delim o o l c":                   api.ErrNote,
		"rule s : o l c;rule l : a;delim s o s c":                   api.ErrNote,
		"rule s : o l c;rule l : a;delim s a l c":                   api.ErrNote,
		"rule s : o l c;rule l : a;delim s o l a":                   api.ErrNote,
		"rule s : l;rule s : o;rule s : c;rule l : a;delim s o l c": api.ErrNote,
		// Holes.
		"rule s : a;hole s a":                     api.OK,
		"rule s : b;rule s : a;rule s :;hole s a": api.OK,
		"rule s : b;rule s : a;hole s a;hole s b": api.OK,
		"rule s : b;rule s : a;hole s a;hole s c": api.ErrNote,
		"rule s : a a;hole s a":                   api.ErrNote,
		"rule s :;hole s a":                       api.ErrNote,
		"rule s : b;hole s a":                     api.ErrNote,
		"rule s : a;hole a a":                     api.ErrNote,
		"rule s : a;hole a s":                     api.ErrNote,
		"rule s : a;hole s s":                     api.ErrNote,
		"rule s : t;rule t : a;hole s t":          api.ErrNote,
		"rule s : t;rule t : a;hole s a":          api.ErrNote,
		"rule s : t;rule t : a;hole t a":          api.OK,
	} {
		refuses(t, tokens+lines, want)
		refuses(t, "skip w w;"+tokens+lines, want)
	}
}

// TestP111NoteNumbers: notes are numbered in the order in which they are told.
func TestP111NoteNumbers(t *testing.T) {
	const rules = "token a a;token b b;token o o;token c c;start s;rule s : s b e;rule e : o n c;rule n :;rule s : e;rule e : o s c;rule n : n e;rule e : a;rule e : b;rule e : o s c;rule e : a;"
	x := made(t, rules+"hole e b;delim e o s c;list n e;delim e o n c;list s e b;hole e a;list n e;hole e b")
	s, e, n := 5, 6, 7
	if want := [][]int{{n, e, -1, 2, 5}, {s, e, 1, 3, 0}, {n, e, -1, 2, 5}}; !sameLists(x.Lists, want) {
		t.Errorf("lists %v, want %v", x.Lists, want)
	}
	// Of rules that are the same the first one.
	if want := [][]int{{4, e, 2, s, 3}, {1, e, 2, n, 3}}; !sameLists(x.Delims, want) {
		t.Errorf("delims %v, want %v", x.Delims, want)
	}
	if want := [][]int{{7, e, 1}, {6, e, 0}, {7, e, 1}}; !sameLists(x.Holes, want) {
		t.Errorf("holes %v, want %v", x.Holes, want)
	}
}

// TestP111Order: of two faults the one that is asked first, wherever both stand.
func TestP111Order(t *testing.T) {
	const good = "skip w w;token a a;token b b;token m m;skip v v;start s;rule s : l;rule l : a;rule l : l m a;rule s : b;list l a m;hole s b"
	ahead := func(tok ...api.Token) func(g *api.Grammar) {
		return func(g *api.Grammar) { g.Tokens = append(tok, g.Tokens...) }
	}
	behind := func(tok ...api.Token) func(g *api.Grammar) {
		return func(g *api.Grammar) { g.Tokens = append(g.Tokens, tok...) }
	}
	prodAhead := func(left string, right ...string) func(g *api.Grammar) {
		return func(g *api.Grammar) { g.Prods = append([]api.Prod{{Left: left, Right: right}}, g.Prods...) }
	}
	prodBehind := func(left string, right ...string) func(g *api.Grammar) {
		return func(g *api.Grammar) { g.Prods = append(g.Prods, api.Prod{Left: left, Right: right}) }
	}
	noteAhead := func(kind byte, args ...string) func(g *api.Grammar) {
		return func(g *api.Grammar) { g.Notes = append([]api.Note{{Kind: kind, Args: args}}, g.Notes...) }
	}
	noteBehind := func(kind byte, args ...string) func(g *api.Grammar) {
		return func(g *api.Grammar) { g.Notes = append(g.Notes, api.Note{Kind: kind, Args: args}) }
	}
	// All that a rank asks for, ahead of all that the next one does.
	ranks := []struct {
		want   api.Errno
		faults []func(g *api.Grammar)
	}{
		{api.ErrArg, []func(g *api.Grammar){ahead(api.Token{Name: "1", Regex: "x"}), behind(api.Token{Name: "x", Regex: ""}), prodBehind("s", ""), noteBehind(9, "s"), func(g *api.Grammar) { g.Start = "-" }}},
		{api.ErrEmpty, []func(g *api.Grammar){func(g *api.Grammar) { g.Start = "" }, func(g *api.Grammar) { g.Prods = nil }, func(g *api.Grammar) {
			for i := range g.Tokens {
				g.Tokens[i].Skip = true
			}
		}}},
		{api.ErrTwice, []func(g *api.Grammar){ahead(api.Token{Name: "a", Regex: "x"}), behind(api.Token{Name: "w", Regex: "x"}), behind(api.Token{Name: "l", Regex: "x", Skip: true}), prodBehind("a", "a"), prodAhead("v", "a")}},
		{api.ErrRegex, []func(g *api.Grammar){ahead(api.Token{Name: "x1", Regex: "("}), behind(api.Token{Name: "x2", Regex: "*", Skip: true})}},
		{api.ErrEmpty, []func(g *api.Grammar){ahead(api.Token{Name: "y1", Regex: "y*"}), behind(api.Token{Name: "y2", Regex: "y?", Skip: true})}},
		{api.ErrName, []func(g *api.Grammar){func(g *api.Grammar) { g.Start = "a" }, func(g *api.Grammar) { g.Start = "no" }, prodAhead("s", "no"), prodBehind("s", "a", "w"), noteAhead(api.Hole, "no", "a"), noteBehind(api.List, "l", "a", "v")}},
		{api.ErrUseless, []func(g *api.Grammar){prodAhead("z1", "a"), prodBehind("z2", "a"), func(g *api.Grammar) {
			g.Prods = append(g.Prods, api.Prod{Left: "z3", Right: []string{"z3"}}, api.Prod{Left: "s", Right: []string{"z3"}})
		}}},
		{api.ErrNote, []func(g *api.Grammar){noteAhead(api.Hole, "s", "a"), noteBehind(api.List, "s", "a"), noteBehind(api.Delim, "s", "a", "l", "b")}},
	}
	refused(t, "no fault", read(t, good), api.OK)
	for i, rank := range ranks {
		for _, first := range rank.faults {
			g := read(t, good)
			first(&g)
			refused(t, "rank "+strconv.Itoa(i), g, rank.want)
			for j, later := range ranks[i+1:] {
				for _, second := range later.faults {
					name := "ranks " + strconv.Itoa(i) + " and " + strconv.Itoa(i+1+j)
					g := read(t, good)
					second(&g)
					first(&g)
					refused(t, name, g, rank.want)
				}
			}
		}
	}
}

// TestP111Plain: grammars at random, held against the chapter's words.
func TestP111Plain(t *testing.T) {
	m := maker{rand.New(rand.NewSource(111))}
	met, notes := map[api.Errno]int{}, map[string]int{}
	for range 60000 {
		g := m.grammar()
		want, code := plainResolve(g)
		x, e := Resolve(g)
		if e != code || !same(x, want) || Right(x) != (e == api.OK) {
			t.Fatalf("%+v:\n%+v, %d, want\n%+v, %d", g, x, e, want, code)
		}
		met[e]++
		for _, l := range x.Lists {
			notes["list"+strconv.Itoa(min(l[2], 0))]++
		}
		notes["delim"] += len(x.Delims)
		notes["hole"] += len(x.Holes)
	}
	for _, e := range []api.Errno{api.OK, api.ErrEmpty, api.ErrTwice, api.ErrName, api.ErrUseless, api.ErrNote} {
		if met[e] < 500 {
			t.Errorf("%d only %d times", e, met[e])
		}
	}
	for _, kind := range []string{"list-1", "list0", "delim", "hole"} {
		if notes[kind] < 50 {
			t.Errorf("too few notes: %v", notes)
		}
	}
}

// TestP111Regex: each error of an expression is Parse's.
func TestP111Regex(t *testing.T) {
	for _, s := range []string{"(", ")", "[", "]", "*", "+", "?", "|", "()", "a", "a*", "[]", "[^]", "[a", "a\\", "\\q", "é", "[é]", ".", ".*", "a++", "a+++++++", "a++++++++", strings.Repeat("(", 50) + strings.Repeat(")", 50), strings.Repeat("a", 100), strings.Repeat("a", 101), strings.Repeat("(a", 33), strings.Repeat("é", 50), strings.Repeat("é", 51), strings.Repeat("[^a]", 25)} {
		x, want := regex.Parse(s)
		if want == api.OK && regex.Empty(x) {
			want = api.ErrEmpty
		}
		for at := range 3 {
			for _, skip := range []bool{false, true} {
				g := read(t, "skip w w;token a a;start s;rule s : a")
				g.Tokens = slices.Insert(g.Tokens, at, api.Token{Name: "x", Regex: s, Skip: skip})
				refused(t, s, g, want)
			}
		}
	}
}

// roomy is a grammar of new memory, whose lists have spare room in which something stands.
func roomy(g api.Grammar) api.Grammar {
	spare := func(l []string) []string { return append(slices.Clone(l), "!", "!")[:len(l)] }
	h := api.Grammar{Start: g.Start}
	h.Tokens = append(slices.Clone(g.Tokens), api.Token{Name: "!"})[:len(g.Tokens)]
	for _, p := range g.Prods {
		h.Prods = append(h.Prods, api.Prod{Left: p.Left, Right: spare(p.Right)})
	}
	for _, n := range g.Notes {
		h.Notes = append(h.Notes, api.Note{Kind: n.Kind, Args: spare(n.Args)})
	}
	h.Prods = append(h.Prods, api.Prod{Left: "!"})[:len(g.Prods)]
	h.Notes = append(h.Notes, api.Note{Kind: 77})[:len(g.Notes)]
	return h
}

// inRoom is a copy of a grammar with all that stands in its lists' spare room.
func inRoom(g api.Grammar) api.Grammar {
	h := api.Grammar{Start: g.Start, Tokens: slices.Clone(g.Tokens[:cap(g.Tokens)])}
	for _, p := range g.Prods[:cap(g.Prods)] {
		h.Prods = append(h.Prods, api.Prod{Left: p.Left, Right: slices.Clone(p.Right[:cap(p.Right)])})
	}
	for _, n := range g.Notes[:cap(g.Notes)] {
		h.Notes = append(h.Notes, api.Note{Kind: n.Kind, Args: slices.Clone(n.Args[:cap(n.Args)])})
	}
	return h
}

// scribble turns all that is in a syntax, its lists' spare room too.
func scribble(x api.Syntax) {
	for _, l := range slices.Concat([][]int{x.Of, x.Class}, x.Lists, x.Delims, x.Holes) {
		scribbleInts(l)
	}
	for _, r := range x.Rules {
		scribbleInts(r.Right)
	}
	for i := range x.Rules[:cap(x.Rules)] {
		x.Rules[:cap(x.Rules)][i] = api.Rule{Left: 77}
	}
	for i := range x.Names[:cap(x.Names)] {
		x.Names[:cap(x.Names)][i] = "!"
	}
	for _, l := range [][][]int{x.Lists, x.Delims, x.Holes} {
		for i := range l[:cap(l)] {
			l[:cap(l)][i] = []int{77}
		}
	}
}

// scribbleInts turns all of a list, its spare room too.
func scribbleInts(l []int) {
	for i := range l[:cap(l)] {
		l[:cap(l)][i] = 77
	}
}

// TestP111Memory: a grammar stays as it was; a syntax shares nothing with it, nor with another one, nor its lists with each other.
func TestP111Memory(t *testing.T) {
	m := maker{rand.New(rand.NewSource(1110))}
	grammars := []api.Grammar{read(t, whole), {}}
	for range 3000 {
		grammars = append(grammars, m.grammar())
	}
	for _, g := range grammars {
		r := roomy(g)
		was := inRoom(r)
		x, e := Resolve(r)
		keep := leanSyntax(x)
		y, f := Resolve(r)
		scribble(y)
		if !reflect.DeepEqual(inRoom(r), was) {
			t.Fatalf("%+v turned: %+v", g, r)
		}
		if e != f || !same(x, keep) {
			t.Fatalf("%+v: another answer, or memory that two share: %+v, %+v", g, x, keep)
		}
		lists := append(slices.Concat([][]int{x.Of, x.Class}, x.Lists, x.Delims, x.Holes), nil)
		for _, rule := range x.Rules {
			lists = append(lists, rule.Right)
		}
		for i, l := range lists {
			scribbleInts(l)
			for _, o := range lists[i+1:] {
				if slices.Contains(o, 77) {
					t.Fatalf("%+v: two lists share memory", g)
				}
			}
		}
	}
}

// TestP111Strings: not even the names' bytes are the grammar's.
func TestP111Strings(t *testing.T) {
	text := []byte("aslw")
	piece := func(i int) string { return unsafe.String(&text[i], 1) }
	g := api.Grammar{
		Tokens: []api.Token{{Name: piece(0), Regex: "a"}, {Name: piece(3), Regex: "w", Skip: true}},
		Start:  piece(1),
		Prods:  []api.Prod{{Left: piece(1), Right: []string{piece(2)}}, {Left: piece(2), Right: []string{piece(0)}}},
	}
	x, e := Resolve(g)
	copy(text, "!!!!")
	if e != api.OK || !slices.Equal(x.Names, []string{"a", "", "s", "l"}) {
		t.Errorf("%q, %d", x.Names, e)
	}
}
