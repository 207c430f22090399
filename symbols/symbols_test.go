package symbols

import (
	"math"
	"math/rand"
	"reflect"
	"slices"
	"strconv"
	"testing"

	"pleacher/api"
)

// right holds Right of a syntax against what is meant; of one that may not be nothing is told.
func right(t *testing.T, name string, x api.Syntax, want bool) {
	t.Helper()
	if Right(x) != want {
		t.Errorf("%s: Right of %+v is %v", name, x, !want)
	}
	if got := []int{len(Empty(x)), len(First(x)), len(Follow(x))}; want && !slices.Equal(got, slices.Repeat([]int{len(x.Names)}, 3)) || !want && !slices.Equal(got, []int{0, 0, 0}) {
		t.Errorf("%s: %v symbols of %+v", name, got, x)
	}
	if Empty(x) != nil != want || First(x) != nil != want || Follow(x) != nil != want {
		t.Errorf("%s: %+v", name, x)
	}
}

// odd are numbers that may be wrong where a syntax has one.
func odd(x api.Syntax) []int {
	l := []int{math.MinInt, math.MinInt32, -1 << 32, -256, -65, -64, -3, -2, -1, 31, 32, 33, 63, 64, 65, 255, 256, 1 << 31, 1 << 32, 1<<32 + x.Start, math.MaxInt}
	for n := range max(len(x.Names), len(x.Rules)) + 3 {
		l = append(l, n)
	}
	return l
}

// numbersOf are the places of all numbers that a syntax has.
func numbersOf(x *api.Syntax) []*int {
	l := []*int{&x.Terms, &x.Start}
	for _, row := range slices.Concat([][]int{x.Of, x.Class}, x.Lists, x.Delims, x.Holes) {
		for i := range row {
			l = append(l, &row[i])
		}
	}
	for i := range x.Rules {
		l = append(l, &x.Rules[i].Left)
		for j := range x.Rules[i].Right {
			l = append(l, &x.Rules[i].Right[j])
		}
	}
	return l
}

// turned calls for each number of a syntax, and each other one that might stand there, with that syntax.
func turned(x api.Syntax, call func(name string, y api.Syntax)) {
	for i := range numbersOf(&x) {
		for _, n := range odd(x) {
			y := leanSyntax(x)
			*numbersOf(&y)[i] = n
			call("the number "+strconv.Itoa(i)+" as "+strconv.Itoa(n), y)
		}
	}
}

// small is a syntax of one term, one other and one rule.
func small() api.Syntax {
	return api.Syntax{Names: []string{"a", "", "s"}, Terms: 1, Start: 2, Of: []int{0}, Class: []int{0}, Rules: []api.Rule{rule(2, 0)}}
}

func TestP112Right(t *testing.T) {
	right(t, "none", api.Syntax{}, false)
	right(t, "no term at all", api.Syntax{Names: []string{"", "s"}, Start: 1, Rules: []api.Rule{rule(1)}}, false)
	right(t, "no rule at all", api.Syntax{Names: []string{"a", ""}, Terms: 1, Start: 2, Class: []int{0}}, false)
	right(t, "no rule, but a name", api.Syntax{Names: []string{"a", "", "s"}, Terms: 1, Start: 2, Class: []int{0}}, false)
	right(t, "small", small(), true)
	right(t, "whole", wholeSyntax(), true)
	for _, lines := range []string{whole, "token a a;start s;rule s :", "token a a;skip b b;start s;rule s : s s;rule s :;rule s : a"} {
		right(t, lines, made(t, lines), true)
	}
}

// TestP112Turned: one number of a syntax that may be turned into each other one.
func TestP112Turned(t *testing.T) {
	yes, no := 0, 0
	for _, x := range []api.Syntax{small(), wholeSyntax(), made(t, "token a a;token b b;start s;rule s : a l b;rule s : a;rule l : l b s;rule l : s;list l s b;hole s a;delim s a l b")} {
		turned(x, func(name string, y api.Syntax) {
			want := plainRight(y)
			right(t, name, y, want)
			if want {
				yes++
			} else {
				no++
			}
		})
	}
	if yes < 100 || no < 1000 {
		t.Errorf("%d may be, %d may not", yes, no)
	}
}

// TestP112Wrong: what each number of a syntax may not be.
func TestP112Wrong(t *testing.T) {
	for name, change := range map[string]func(x *api.Syntax){
		"no term":                      func(x *api.Syntax) { x.Terms, x.Class = 0, nil },
		"terms below 0":                func(x *api.Syntax) { x.Terms, x.Class = -1, nil },
		"one term less":                func(x *api.Syntax) { x.Terms, x.Class = 4, x.Class[:4] },
		"one term more":                func(x *api.Syntax) { x.Terms, x.Class = 6, append(x.Class, 0) },
		"a term as the start":          func(x *api.Syntax) { x.Start = 4 },
		"the end as the start":         func(x *api.Syntax) { x.Start = 5 },
		"too large a start":            func(x *api.Syntax) { x.Start = 10 },
		"another start":                func(x *api.Syntax) { x.Start = 6 },
		"no names":                     func(x *api.Syntax) { x.Names = nil },
		"one name less":                func(x *api.Syntax) { x.Names = x.Names[:9] },
		"one name more":                func(x *api.Syntax) { x.Names = append(x.Names, "q") },
		"no rules":                     func(x *api.Syntax) { x.Rules = nil },
		"no rules, no notes":           func(x *api.Syntax) { x.Rules, x.Lists, x.Delims, x.Holes = nil, nil, nil, nil },
		"a Left that is a term":        func(x *api.Syntax) { x.Rules[8].Left = 0 },
		"a Left that is the end":       func(x *api.Syntax) { x.Rules[8].Left = 5 },
		"a Left below 0":               func(x *api.Syntax) { x.Rules[8].Left = -1 },
		"a Left that is too large":     func(x *api.Syntax) { x.Rules[8].Left = 10 },
		"the end on a right side":      func(x *api.Syntax) { x.Rules[9].Right[1] = 5 },
		"-1 on a right side":           func(x *api.Syntax) { x.Rules[9].Right[1] = -1 },
		"too large on a right side":    func(x *api.Syntax) { x.Rules[9].Right[1] = 10 },
		"9 on a right side":            func(x *api.Syntax) { x.Rules[9].Right = slices.Repeat([]int{0}, 9) },
		"nothing comes of one":         func(x *api.Syntax) { x.Rules[6].Right = []int{9}; x.Holes = nil },
		"one isn't come to":            func(x *api.Syntax) { x.Rules[4].Right = []int{0, 8, 1}; x.Delims = nil },
		"Of of the end":                func(x *api.Syntax) { x.Of[7] = 5 },
		"Of of an other":               func(x *api.Syntax) { x.Of[7] = 6 },
		"Of of -2":                     func(x *api.Syntax) { x.Of[7] = -2 },
		"33 of Of":                     func(x *api.Syntax) { x.Of = slices.Repeat([]int{-1}, 33) },
		"33 terms of Of":               func(x *api.Syntax) { x.Of = make([]int, 33) },
		"one class less":               func(x *api.Syntax) { x.Class = x.Class[:4] },
		"one class more":               func(x *api.Syntax) { x.Class = append(x.Class, 0) },
		"no class":                     func(x *api.Syntax) { x.Class = nil },
		"an empty list":                func(x *api.Syntax) { x.Lists[1] = nil },
		"a list of 4":                  func(x *api.Syntax) { x.Lists[1] = x.Lists[1][:4] },
		"a list of 6":                  func(x *api.Syntax) { x.Lists[1] = append(x.Lists[1], 3) },
		"a list's rules turned round":  func(x *api.Syntax) { x.Lists[1] = []int{8, 6, 4, 3, 5} },
		"one rule twice":               func(x *api.Syntax) { x.Lists[1] = []int{8, 6, 4, 3, 3} },
		"a list of another element":    func(x *api.Syntax) { x.Lists[1] = []int{8, 7, 4, 5, 3} },
		"a list of itself":             func(x *api.Syntax) { x.Lists[1] = []int{8, 8, 4, 5, 3} },
		"a list without what it has":   func(x *api.Syntax) { x.Lists[1] = []int{8, 6, -1, 5, 3} },
		"a list with another one":      func(x *api.Syntax) { x.Lists[1] = []int{8, 6, 0, 5, 3} },
		"a list with none, as -2":      func(x *api.Syntax) { x.Lists[0] = []int{7, 8, -2, 2, 1} },
		"a list with what it has not":  func(x *api.Syntax) { x.Lists[0] = []int{7, 8, 4, 2, 1} },
		"a list's rules below 0":       func(x *api.Syntax) { x.Lists[0] = []int{7, 8, -1, -1, -1} },
		"a list's rules, too large":    func(x *api.Syntax) { x.Lists[0] = []int{7, 8, -1, 10, 11} },
		"a list that is a term":        func(x *api.Syntax) { x.Lists[0] = []int{0, 8, -1, 2, 1} },
		"a list with three rules":      func(x *api.Syntax) { x.Rules = append(x.Rules, rule(7, 8)) },
		"a list that is there thrice":  func(x *api.Syntax) { x.Rules = append(x.Rules, rule(7)) },
		"an empty delim":               func(x *api.Syntax) { x.Delims[0] = []int{} },
		"a delim of 4":                 func(x *api.Syntax) { x.Delims[0] = x.Delims[0][:4] },
		"a delim of 6":                 func(x *api.Syntax) { x.Delims[0] = append(x.Delims[0], 1) },
		"a delim of another rule":      func(x *api.Syntax) { x.Delims[0][0] = 4 },
		"a delim of another Left":      func(x *api.Syntax) { x.Delims[0][1] = 7 },
		"a delim of another open one":  func(x *api.Syntax) { x.Delims[0][2] = 1 },
		"a delim of another list":      func(x *api.Syntax) { x.Delims[0][3] = 9 },
		"a delim of another close one": func(x *api.Syntax) { x.Delims[0][4] = 0 },
		"a delim of others":            func(x *api.Syntax) { x.Delims[0] = []int{9, 9, 9, 9, 9} },
		"a delim's rule below 0":       func(x *api.Syntax) { x.Delims[0][0] = -1 },
		"a delim's rule too large":     func(x *api.Syntax) { x.Delims[0][0] = 10 },
		"a delim of terms": func(x *api.Syntax) {
			x.Rules = append(x.Rules, rule(6, 0, 1, 2))
			x.Delims = append(x.Delims, []int{10, 6, 0, 1, 2})
		},
		"a delim with an open other": func(x *api.Syntax) {
			x.Rules = append(x.Rules, rule(6, 6, 6, 2))
			x.Delims = append(x.Delims, []int{10, 6, 6, 6, 2})
		},
		"a delim with a close other": func(x *api.Syntax) {
			x.Rules = append(x.Rules, rule(6, 2, 6, 6))
			x.Delims = append(x.Delims, []int{10, 6, 2, 6, 6})
		},
		"an empty hole":             func(x *api.Syntax) { x.Holes[2] = nil },
		"a hole of 2":               func(x *api.Syntax) { x.Holes[2] = x.Holes[2][:2] },
		"a hole of 4":               func(x *api.Syntax) { x.Holes[2] = append(x.Holes[2], 2) },
		"a hole of another rule":    func(x *api.Syntax) { x.Holes[2][0] = 7 },
		"a hole of another Left":    func(x *api.Syntax) { x.Holes[2][1] = 9 },
		"a hole of another term":    func(x *api.Syntax) { x.Holes[2][2] = 3 },
		"a hole of an other":        func(x *api.Syntax) { x.Holes[2] = []int{5, 8, 6} },
		"a hole's rule below 0":     func(x *api.Syntax) { x.Holes[2][0] = -1 },
		"a hole's rule too large":   func(x *api.Syntax) { x.Holes[2][0] = 10 },
		"a hole of nothing":         func(x *api.Syntax) { x.Holes[2] = []int{2, 7, 0} },
		"a hole of a longer rule":   func(x *api.Syntax) { x.Holes[2] = []int{1, 7, 7} },
		"a hole with a whole delim": func(x *api.Syntax) { x.Holes[2] = []int{0, 6, 0, 8, 1} },
	} {
		x := wholeSyntax()
		change(&x)
		right(t, name, x, false)
		if plainRight(x) {
			t.Errorf("%s: may be, plainly", name)
		}
	}
}

// TestP112Any: what a syntax may have that no grammar's has.
func TestP112Any(t *testing.T) {
	for name, change := range map[string]func(x *api.Syntax){
		"classes of any numbers": func(x *api.Syntax) { x.Class = []int{-1, 10, math.MaxInt, math.MinInt, 9} },
		"all but one skipped":    func(x *api.Syntax) { x.Of = []int{-1, -1, -1, -1, -1, -1, -1, 4} },
		"more skipped":           func(x *api.Syntax) { x.Of = append(x.Of, slices.Repeat([]int{-1}, 24)...) },
		"the rules' spare room":  func(x *api.Syntax) { x.Rules = append(x.Rules, api.Rule{})[:len(x.Rules)] },
		"empty, not nil":         func(x *api.Syntax) { x.Rules[2].Right = []int{} },
		"names of any kind":      func(x *api.Syntax) { x.Names = make([]string, len(x.Names)) },
		"8 on a right side":      func(x *api.Syntax) { x.Rules[9].Right = slices.Repeat([]int{0}, 8) },
		"no notes":               func(x *api.Syntax) { x.Lists, x.Delims, x.Holes = nil, nil, nil },
		"64 rules":               func(x *api.Syntax) { x.Rules = append(x.Rules, slices.Repeat([]api.Rule{rule(6, 2)}, 54)...) },
		"the second of two rules that are the same": func(x *api.Syntax) {
			x.Rules = append(x.Rules, rule(6, 2), rule(6, 0, 8, 1))
			x.Holes[2][0], x.Delims[0][0] = 10, 11
		},
		"a great many notes": func(x *api.Syntax) {
			x.Lists, x.Delims, x.Holes = slices.Repeat(x.Lists, 300), slices.Repeat(x.Delims, 300), slices.Repeat(x.Holes, 300)
		},
	} {
		x := wholeSyntax()
		change(&x)
		right(t, name, x, true)
		if !plainRight(x) {
			t.Errorf("%s: may not be, plainly", name)
		}
	}
	x := wholeSyntax()
	x.Rules = append(x.Rules, slices.Repeat([]api.Rule{rule(6, 2)}, 55)...)
	right(t, "65 rules", x, false)
	x = wholeSyntax()
	x.Lists = append(slices.Repeat(x.Lists, 300), []int{8, 6, 4, 5, 4})
	right(t, "a great many notes, the last one wrong", x, false)
}

// TestP112Terms: as many terms, others and symbols as may be, and one more.
func TestP112Terms(t *testing.T) {
	of := func(terms, others int) api.Syntax {
		x := api.Syntax{Names: make([]string, terms+1+others), Terms: terms, Start: terms + 1, Class: make([]int, terms)}
		for i := range others {
			x.Rules = append(x.Rules, rule(terms+1+i, terms-1, terms+1+(i+1)%others), rule(terms+1+i))
		}
		return x
	}
	for terms := range 70 {
		if terms > 0 {
			right(t, strconv.Itoa(terms)+" terms", of(terms, 1), terms <= 32)
		}
		right(t, strconv.Itoa(terms)+" others", of(32, terms+1), terms+1 <= 32)
	}
	x := of(32, 32)
	for i := range x.Names[33:] {
		if l := First(x)[33+i]; !slices.Equal(l, []int{31}) {
			t.Errorf("First of %d: %v", 33+i, l)
		}
		if l := Follow(x)[33+i]; !slices.Equal(l, []int{32}) {
			t.Errorf("Follow of %d: %v", 33+i, l)
		}
	}
	x = small()
	x.Names = make([]string, 1<<20)
	right(t, "a great many names", x, false)
	x.Terms, x.Start = 1<<20-2, 1<<20-1
	x.Class = make([]int, x.Terms)
	right(t, "a great many terms", x, false)
	x = small()
	x.Rules = slices.Repeat(x.Rules, 1<<20)
	right(t, "a great many rules", x, false)
	x = small()
	x.Rules[0].Right = make([]int, 1<<20)
	right(t, "a long right side", x, false)
}

// TestP112Plain: syntaxes at random, with one thing turned now and then.
func TestP112Plain(t *testing.T) {
	m := maker{rand.New(rand.NewSource(112))}
	met := map[bool]int{}
	for range 40000 {
		x := m.syntax(3, 3, 6)
		for range m.Intn(3) {
			l := numbersOf(&x)
			*l[m.Intn(len(l))] = m.Intn(len(x.Names)+3) - 2
		}
		want := plainRight(x)
		right(t, "at random", x, want)
		met[want]++
	}
	if met[true] < 5000 || met[false] < 5000 {
		t.Errorf("too few of a kind: %v", met)
	}
}

func TestP113Example(t *testing.T) {
	x := made(t, "token n n;start s;rule s : e s;rule s :;rule e : n")
	holds(t, x, []bool{false, false, true, false}, [][]int{{0}, {1}, {0}, {0}}, [][]int{nil, nil, {1}, {0, 1}})
}

// holds holds what a syntax's symbols may be against what is meant.
func holds(t *testing.T, x api.Syntax, empty []bool, first, follow [][]int) {
	t.Helper()
	if l := Empty(x); !slices.Equal(l, empty) {
		t.Errorf("%+v: Empty %v, want %v", x, l, empty)
	}
	if l := First(x); !sameLists(l, first) {
		t.Errorf("%+v: First %v, want %v", x, l, first)
	}
	if l := Follow(x); !sameLists(l, follow) {
		t.Errorf("%+v: Follow %v, want %v", x, l, follow)
	}
}

// TestP113Symbols: ordinary syntaxes, and such as have something to stumble over.
func TestP113Symbols(t *testing.T) {
	for _, c := range []struct {
		lines         string
		empty         []int
		first, follow [][]int // of the others
	}{
		// Sums of products; r and q are their rests.
		{"token p p;token m m;token o o;token c c;token n n;start e;rule e : t r;rule r : p t r;rule r :;rule t : f q;rule q : m f q;rule q :;rule f : o e c;rule f : n",
			[]int{7, 9}, [][]int{{2, 4}, {0}, {2, 4}, {1}, {2, 4}}, [][]int{{3, 5}, {3, 5}, {0, 3, 5}, {0, 3, 5}, {0, 1, 3, 5}}},
		// Sums from the left.
		{"token p p;token n n;start e;rule e : e p n;rule e : n", nil, [][]int{{1}}, [][]int{{0, 2}}},
		// Each of a row may be empty.
		{"token a a;token b b;token c c;start s;rule s : t u v;rule t :;rule t : a;rule u :;rule u : b;rule v :;rule v : c",
			[]int{4, 5, 6, 7}, [][]int{{0, 1, 2}, {0}, {1}, {2}}, [][]int{{3}, {1, 2, 3}, {2, 3}, {3}}},
		// Nothing but nothing.
		{"token a a;start s;rule s :", []int{2}, [][]int{nil}, [][]int{{1}}},
		{"token a a;start s;rule s : t;rule t : s;rule t :", []int{2, 3}, [][]int{nil, nil}, [][]int{{1}, {1}}},
		{"token a a;start s;rule s : t s t;rule s :;rule t :", []int{2, 3}, [][]int{nil, nil}, [][]int{{1}, {1}}},
		// A ring of others that begin with each other.
		{"token a a;token b b;token c c;start s;rule s : t a;rule s : b;rule t : u;rule u : v;rule v : t;rule v : s c",
			nil, [][]int{{1}, {1}, {1}, {1}}, [][]int{{2, 3}, {0}, {0}, {0}}},
		// A ring of others that end with each other.
		{"token a a;token b b;token c c;start s;rule s : a t;rule s : b;rule t : b u;rule u : c v;rule v : a t;rule v : s",
			nil, [][]int{{0, 1}, {1}, {2}, {0, 1}}, [][]int{{3}, {3}, {3}, {3}}},
		// The start within itself, and twice behind itself.
		{"token a a;start s;rule s : s a;rule s :", []int{2}, [][]int{{0}}, [][]int{{0, 1}}},
		{"token a a;start s;rule s : a s", nil, nil, nil},
		{"token a a;token b b;start s;rule s : s s;rule s : a;rule s : b", nil, [][]int{{0, 1}}, [][]int{{0, 1, 2}}},
		{"token a a;start s;rule s : t t;rule t :;rule t : a", []int{2, 3}, [][]int{{0}, {0}}, [][]int{{1}, {0, 1}}},
		{"token a a;token b b;start s;rule s : a s b;rule s :", []int{3}, [][]int{{0}}, [][]int{{1, 2}}},
		// A term that stands nowhere, and one that is skipped.
		{"token a a;token b b;start s;rule s : a", nil, [][]int{{0}}, [][]int{{2}}},
		{"skip b b;token a a;start s;rule s : a", nil, [][]int{{0}}, [][]int{{1}}},
		// What is behind goes down by others that end there, and by those that may be empty.
		{"token b b;token c c;start s;rule s : t b;rule t : u u;rule u : v;rule v :;rule v : c", []int{4, 5, 6}, [][]int{{0, 1}, {1}, {1}, {1}}, [][]int{{2}, {0}, {0, 1}, {0, 1}}},
		{"token a a;token b b;start t;rule s : a;rule t : s u b;rule u : v v;rule v :", []int{5, 6}, [][]int{{0}, {0}, nil, nil}, [][]int{{1}, {2}, {1}, {1}}},
		// The start is the last one.
		{"token a a;token b b;start s;rule v : b;rule u : a v;rule t : u u;rule s : t b", nil, [][]int{{1}, {0}, {0}, {0}}, [][]int{{0, 1}, {0, 1}, {1}, {2}}},
	} {
		x, e := Resolve(read(t, c.lines))
		if c.first == nil {
			if e != api.ErrUseless {
				t.Errorf("%s: %d", c.lines, e)
			}
			continue
		}
		empty, first, follow := make([]bool, len(x.Names)), [][]int{}, make([][]int, x.Terms+1)
		for _, sym := range c.empty {
			empty[sym] = true
		}
		for sym := range x.Terms + 1 {
			first = append(first, []int{sym})
		}
		holds(t, x, empty, append(first, c.first...), append(follow, c.follow...))
	}
}

// TestP113Bits: the terms of a syntax that has as many as may be.
func TestP113Bits(t *testing.T) {
	x := api.Syntax{Names: make([]string, 35), Terms: 32, Start: 33, Class: make([]int, 32)}
	var all []int
	for term := range 32 {
		all = append(all, term)
		x.Rules = append(x.Rules, rule(33, 34, 31-term), rule(34, term, 34))
	}
	x.Rules = x.Rules[:63]
	x.Rules = append(x.Rules, rule(34))
	first, follow := First(x), Follow(x)
	if !slices.Equal(first[33], all) || !slices.Equal(first[34], all[:31]) {
		t.Errorf("First %v", first)
	}
	if !slices.Equal(follow[33], []int{32}) || !slices.Equal(follow[34], all) {
		t.Errorf("Follow %v", follow)
	}
	for term := range 33 {
		if !slices.Equal(first[term], []int{term}) || len(follow[term]) != 0 {
			t.Errorf("of %d: %v, %v", term, first[term], follow[term])
		}
	}
}

// TestP114Plain: syntaxes at random, held against graphs of who leads to whom.
func TestP114Plain(t *testing.T) {
	m := maker{rand.New(rand.NewSource(114))}
	count := 0
	for i := range 30000 {
		x := m.syntax(3, 3, 8)
		if i%2 == 0 {
			x = m.syntax(32, 8, 40)
		}
		if !plainRight(x) {
			continue
		}
		count++
		holds(t, x, plainEmpty(x), plainFirst(x), plainFollow(x))
		if t.Failed() {
			return
		}
	}
	if count < 5000 {
		t.Errorf("only %d syntaxes", count)
	}
}

// forms are all rows of symbols that come of one, and are made by way of rows of so many symbols at most.
func forms(x api.Syntax, sym, most int) map[string]int {
	met, todo := map[string]int{string([]byte{byte(sym)}): 1}, []string{string([]byte{byte(sym)})}
	for ; len(todo) > 0; todo = todo[1:] {
		row := todo[0]
		for i := range len(row) {
			for _, r := range x.Rules {
				next := []byte(row[:i])
				for _, s := range r.Right {
					next = append(next, byte(s))
				}
				next = append(next, row[i+1:]...)
				if int(row[i]) == r.Left && len(next) <= most && met[string(next)] == 0 {
					met[string(next)] = 1
					todo = append(todo, string(next))
				}
			}
		}
	}
	return met
}

// written is what a syntax's symbols may be, as all rows that aren't too long show it.
func written(x api.Syntax, most int) (empty []bool, first, follow [][]int) {
	n := len(x.Names)
	empty, first, follow = make([]bool, n), make([][]int, n), make([][]int, n)
	for sym := range n {
		for row := range forms(x, sym, most) {
			empty[sym] = empty[sym] || row == ""
			if row != "" && int(row[0]) <= x.Terms {
				first[sym] = append(first[sym], int(row[0]))
			}
		}
	}
	for row := range forms(x, x.Start, most) {
		row += string([]byte{byte(x.Terms)})
		for i := range len(row) - 1 {
			if int(row[i]) > x.Terms && int(row[i+1]) <= x.Terms {
				follow[row[i]] = append(follow[row[i]], int(row[i+1]))
			}
		}
	}
	for sym := range n {
		slices.Sort(first[sym])
		slices.Sort(follow[sym])
		first[sym], follow[sym] = slices.Compact(first[sym]), slices.Compact(follow[sym])
	}
	return empty, first, follow
}

// sides are all right sides of at most two of some symbols.
func sides(symbols ...int) [][]int {
	l := [][]int{nil}
	for _, s := range symbols {
		l = append(l, []int{s})
		for _, o := range symbols {
			l = append(l, []int{s, o})
		}
	}
	return l
}

// TestP114Written: all syntaxes of one term and two others with up to three short rules, held against all that comes of them.
func TestP114Written(t *testing.T) {
	var rules []api.Rule
	for _, side := range sides(0, 2, 3) {
		rules = append(rules, rule(2, side...), rule(3, side...))
	}
	count := 0
	try := func(l ...api.Rule) {
		x := api.Syntax{Names: make([]string, 4), Terms: 1, Start: 2, Class: make([]int, 1), Rules: l}
		if !slices.ContainsFunc(l, func(r api.Rule) bool { return r.Left == 3 }) {
			x.Names = x.Names[:3]
		}
		if !Right(x) {
			return
		}
		count++
		empty, first, follow := written(x, 5)
		holds(t, x, empty, first, follow)
	}
	for i, r := range rules {
		try(r)
		for j, s := range rules[:i] {
			try(r, s)
			for _, u := range rules[:j] {
				try(r, s, u)
			}
		}
	}
	if count < 400 {
		t.Errorf("only %d syntaxes", count)
	}
}

// within tells whether a list's lists are parts of another one's.
func within(l, all [][]int) bool {
	for i, row := range l {
		for _, n := range row {
			if !slices.Contains(all[i], n) {
				return false
			}
		}
	}
	return len(l) == len(all)
}

// TestP114More: some syntaxes of two terms and three others: all that comes of them by short rows is told.
func TestP114More(t *testing.T) {
	m := maker{rand.New(rand.NewSource(1140))}
	side := sides(0, 1, 3, 4, 5)
	count := 0
	for range 3000 {
		x := api.Syntax{Names: make([]string, 6), Terms: 2, Start: 3, Class: make([]int, 2)}
		for i := range 3 + m.Intn(3) {
			x.Rules = append(x.Rules, rule(3+i%3, side[m.Intn(len(side))]...))
		}
		if !Right(x) {
			continue
		}
		count++
		empty, first, follow := written(x, 5)
		if !slices.Equal(empty, Empty(x)) || !within(first, First(x)) || !within(follow, Follow(x)) {
			t.Fatalf("%+v: %v, %v, %v", x, empty, first, follow)
		}
	}
	if count < 100 {
		t.Errorf("only %d syntaxes", count)
	}
}

// roomySyntax is a syntax of new memory, whose lists have spare room in which something stands.
func roomySyntax(x api.Syntax) api.Syntax {
	spare := func(l []int) []int { return append(slices.Clone(l), 0, 0)[:len(l)] }
	rows := func(l [][]int) [][]int {
		var m [][]int
		for _, row := range l {
			m = append(m, spare(row))
		}
		return append(m, []int{0})[:len(m)]
	}
	y := api.Syntax{Terms: x.Terms, Start: x.Start, Of: spare(x.Of), Class: spare(x.Class), Lists: rows(x.Lists), Delims: rows(x.Delims), Holes: rows(x.Holes)}
	y.Names = append(slices.Clone(x.Names), "!")[:len(x.Names)]
	for _, r := range x.Rules {
		y.Rules = append(y.Rules, api.Rule{Left: r.Left, Right: spare(r.Right)})
	}
	y.Rules = append(y.Rules, rule(77))[:len(x.Rules)]
	return y
}

// allRoom is a copy of a syntax with all that stands in its lists' spare room.
func allRoom(x api.Syntax) api.Syntax {
	x.Names, x.Of, x.Class, x.Rules = x.Names[:cap(x.Names)], x.Of[:cap(x.Of)], x.Class[:cap(x.Class)], x.Rules[:cap(x.Rules)]
	x.Lists, x.Delims, x.Holes = x.Lists[:cap(x.Lists)], x.Delims[:cap(x.Delims)], x.Holes[:cap(x.Holes)]
	for _, l := range [][][]int{x.Lists, x.Delims, x.Holes} {
		for i := range l {
			l[i] = l[i][:cap(l[i])]
		}
	}
	for i := range x.Rules {
		x.Rules[i].Right = x.Rules[i].Right[:cap(x.Rules[i].Right)]
	}
	return leanSyntax(x)
}

// TestP113Memory: a syntax stays as it was; no two lists share memory.
func TestP113Memory(t *testing.T) {
	m := maker{rand.New(rand.NewSource(113))}
	syntaxes := []api.Syntax{small(), wholeSyntax(), {}}
	for range 1000 {
		syntaxes = append(syntaxes, m.syntax(3, 3, 6))
	}
	for _, x := range syntaxes {
		y, was := roomySyntax(x), allRoom(roomySyntax(x))
		empty, first, follow := Empty(y), First(y), Follow(y)
		for _, l := range slices.Concat(First(y), Follow(y)) {
			scribbleInts(l)
		}
		again := Empty(y)
		for i := range again {
			again[i] = !again[i]
		}
		if ok := Right(y); ok != plainRight(x) || ok && (!slices.Equal(empty, plainEmpty(x)) || !sameLists(first, plainFirst(x)) || !sameLists(follow, plainFollow(x))) {
			t.Fatalf("%+v: another answer, or memory that two share", x)
		}
		lists := slices.Concat(first, follow)
		for i, l := range lists {
			scribbleInts(l)
			for _, o := range lists[i+1:] {
				if slices.Contains(o, 77) {
					t.Fatalf("%+v: two lists share memory", x)
				}
			}
		}
		if !reflect.DeepEqual(allRoom(y), was) {
			t.Fatalf("%+v turned: %+v", x, y)
		}
	}
}
