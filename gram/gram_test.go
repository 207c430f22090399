package gram

import (
	"math"
	"math/rand"
	"reflect"
	"runtime"
	"slices"
	"strconv"
	"strings"
	"testing"

	"pleacher/api"
)

// edgeNames are names, and texts that aren't quite.
func edgeNames() map[string]bool {
	return map[string]bool{
		"a": true, "z": true, "A": true, "Z": true, "a0": true, "a9": true, "a_": true, "A_1": true, "z__": true, "aA0_zZ9": true, "token": true, "abcdefghijklmno": true, "abcdefghijklmnop": true, "a123456789012345": true, "a_______________": true,
		"": false, "0": false, "1": false, "9": false, "_": false, "0a": false, "9a": false, "_a": false, "__": false, "a-b": false, "a.b": false, "-": false, ":": false, "a:": false, ":a": false, "#": false, "#a": false, "a#": false,
		" ": false, " a": false, "a ": false, "a b": false, "\n": false, "a\n": false, "\na": false, "a\nb": false, "a\t": false, "\ta": false, "a\r": false, "a\x00": false, "\x00": false,
		"abcdefghijklmnopq": false, "abcdefghijklmno-": false, "abcdefghijklmno\n": false, "abcdefghijklmnopqrstuvwxyz": false, "0bcdefghijklmnop": false, "a1234567890123456": false,
		"é": false, "aé": false, "éa": false, "a€": false, "a😀": false, "\u0430": false, "a\u0301": false, "\uff41": false, "\u212a": false, "\u017f": false, "a\u0661": false, "\u00aa": false, "abcdefghijklmné": false,
		"\x80": false, "a\x80": false, "\xff": false, "a\xff": false, "\xc3": false, "a\xe2\x82": false, "\x80a": false, "a\xc3b": false,
	}
}

func TestP103Edges(t *testing.T) {
	for s, want := range edgeNames() {
		if got := IsName(s); got != want {
			t.Errorf("%q: %v", s, got)
		}
	}
	for _, n := range []int{17, 18, 32, 256 + 1, 256 + 16, 65536 + 1, 1 << 20} {
		if IsName(strings.Repeat("a", n)) {
			t.Errorf("%d letters are a name", n)
		}
	}
}

// TestP103Bytes: all texts of one byte and of two, and each byte at each place of longer ones.
func TestP103Bytes(t *testing.T) {
	const letters = "abcdefghijklmnopqrstuvwxyzABCDEFGHIJKLMNOPQRSTUVWXYZ"
	try := func(s string) {
		want := len(s) > 0 && len(s) <= 16 && strings.Contains(letters, s[:1])
		for i := range len(s) {
			want = want && strings.Contains(letters+"0123456789_", s[i:i+1])
		}
		if IsName(s) != want {
			t.Errorf("%q: %v", s, !want)
		}
	}
	for c := range 256 {
		try(string([]byte{byte(c)}))
		for d := range 256 {
			try(string([]byte{byte(c), byte(d)}))
		}
		for n := 3; n <= 18; n++ {
			for at := range n {
				s := []byte(strings.Repeat("a", n))
				s[at] = byte(c)
				try(string(s))
			}
		}
	}
	for n := range 1114112 {
		if n >= 128 && (IsName(string(rune(n))) || IsName("a"+string(rune(n)))) {
			t.Fatalf("the sign %d is in a name", n)
		}
	}
}

// TestP102Texts: texts of grammars with each of their parts.
func TestP102Texts(t *testing.T) {
	ws := api.Token{Name: "ws", Regex: " +", Skip: true, Class: 9}
	for _, c := range []struct {
		g    api.Grammar
		want string
	}{
		{api.Grammar{}, ""},
		{api.Grammar{Tokens: []api.Token{}, Prods: []api.Prod{}, Notes: []api.Note{}}, ""},
		{api.Grammar{Start: "s"}, "start s\n"},
		{tokens(token("a", "b", 0)), "token a b\n"},
		{tokens(token("a", "b", 1)), "token a b\nclass a 1\n"},
		{tokens(skip("a", "b")), "skip a b\n"},
		{tokens(ws), "skip ws  +\nclass ws 9\n"},
		{tokens(ws, token("a", " b ", 3), token("b", "  ", 0), token("c", "#", 2)), "skip ws  +\nclass ws 9\ntoken a  b \nclass a 3\ntoken b   \ntoken c #\nclass c 2\n"},
		{tokens(token("a", "é\x00\r", 0)), "token a é\x00\r\n"},
		{tokens(token("a", "b", 3), token("a", "c", 4)), "token a b\nclass a 3\ntoken a c\nclass a 4\n"},
		{prods(prod("s")), "rule s :\n"},
		{prods(prod("s"), prod("s", "s", "a"), prod("t")), "rule s :\nrule s : s a\nrule t :\n"},
		{prods(prod("s", "a", "b", "c", "d", "e", "f", "g", "h")), "rule s : a b c d e f g h\n"},
		{notes(note(api.List, "a", "b")), "list a b\n"},
		{notes(note(api.List, "a", "b", "c")), "list a b c\n"},
		{notes(note(api.Delim, "a", "b", "c", "d")), "delim a b c d\n"},
		{notes(note(api.Hole, "a", "b")), "hole a b\n"},
		{notes(note(api.Hole, "a", "b"), note(api.List, "a", "a"), note(api.Hole, "a", "b")), "hole a b\nlist a a\nhole a b\n"},
		{api.Grammar{Notes: []api.Note{note(api.Hole, "a", "b")}, Prods: []api.Prod{prod("s")}, Start: "t", Tokens: []api.Token{token("x", "y", 0)}}, "token x y\nstart t\nrule s :\nhole a b\n"},
	} {
		writes(t, c.g, c.want)
		writes(t, lean(c.g), c.want)
	}
}

// whole is a grammar with as many of each thing as may be.
func whole() api.Grammar {
	name := "abcdefghijklmnop"
	return api.Grammar{
		Tokens: slices.Repeat([]api.Token{token("a", "b", 9)}, 32),
		Start:  name,
		Prods:  slices.Repeat([]api.Prod{prod("a", "a", "a", "a", "a", "a", "a", "a", "a")}, 64),
		Notes:  slices.Repeat([]api.Note{note(api.Delim, "a", "a", "a", "a")}, 16),
	}
}

// TestP102Right: grammars that just may be, and just may not.
func TestP102Right(t *testing.T) {
	writes(t, whole(), plainText(whole()))
	changes := map[string]func(g *api.Grammar){
		"33 tokens":      func(g *api.Grammar) { g.Tokens = append(g.Tokens, token("a", "b", 0)) },
		"65 productions": func(g *api.Grammar) { g.Prods = append(g.Prods, prod("a")) },
		"17 notes":       func(g *api.Grammar) { g.Notes = append(g.Notes, note(api.Hole, "a", "a")) },
		"9 on a side":    func(g *api.Grammar) { g.Prods[63].Right = slices.Repeat([]string{"a"}, 9) },
		"9 on a side, the first": func(g *api.Grammar) {
			g.Prods = append([]api.Prod{prod("a", slices.Repeat([]string{"a"}, 9)...)}, g.Prods[1:]...)
		},
	}
	for _, no := range []string{"", "1", "_a", "é", "a-b", "a b", "a\n", "a ", "\xff", "abcdefghijklmnopq"} {
		if no != "" {
			changes["start "+no] = func(g *api.Grammar) { g.Start = no }
		}
		changes["the first token "+no] = func(g *api.Grammar) { g.Tokens[0].Name = no }
		changes["the last token "+no] = func(g *api.Grammar) { g.Tokens[31].Name = no }
		changes["the first Left "+no] = func(g *api.Grammar) { g.Prods[0].Left = no }
		changes["the last Left "+no] = func(g *api.Grammar) { g.Prods[63].Left = no }
		changes["Right "+no] = func(g *api.Grammar) { g.Prods[7].Right = []string{"a", no, "a"} }
		changes["the last Right "+no] = func(g *api.Grammar) { g.Prods[63].Right = []string{"a", no} }
		changes["Args "+no] = func(g *api.Grammar) { g.Notes[15].Args = []string{"a", "a", "a", no} }
		changes["the first Args "+no] = func(g *api.Grammar) { g.Notes[0].Args = []string{no, "a", "a", "a"} }
		for kind, n := range map[byte]int{api.List: 2, api.Hole: 2} {
			changes["Args of the kind "+strconv.Itoa(int(kind))+" "+no] = func(g *api.Grammar) { g.Notes[3] = note(kind, append(slices.Repeat([]string{"a"}, n-1), no)...) }
		}
	}
	for _, no := range []string{"", "\n", "a\n", "\na", "a\nb", "\x80", "a\xff", "\xe2\x82", "\xed\xa0\x80", "\xff\n"} {
		changes["an expression "+no] = func(g *api.Grammar) { g.Tokens[31].Regex = no }
		changes["the first expression "+no] = func(g *api.Grammar) { g.Tokens[0].Regex, g.Tokens[0].Skip = no, true }
	}
	for _, no := range []int{-1, 10, 11, 256, 265, math.MaxInt, math.MinInt} {
		changes["the class "+strconv.Itoa(no)] = func(g *api.Grammar) { g.Tokens[31].Class = no }
	}
	for name, change := range changes {
		g := whole()
		change(&g)
		mayNot(t, name, g)
	}
	for class := range 10 {
		if g := tokens(token("a", "b", class)); !Right(g) {
			t.Errorf("the class %d may not be", class)
		}
	}
}

// TestP102Kinds: notes of all kinds, with all numbers of Args.
func TestP102Kinds(t *testing.T) {
	for kind := range 256 {
		for n := range 7 {
			g := notes(note(api.Hole, "a", "b"), note(byte(kind), slices.Repeat([]string{"a"}, n)...))
			want := kind == 1 && (n == 2 || n == 3) || kind == 2 && n == 4 || kind == 3 && n == 2
			if Right(g) != want {
				t.Errorf("kind %d, %d Args: %v", kind, n, !want)
			}
			if _, e := Text(g); (e == api.OK) != want || !want && e != api.ErrArg {
				t.Errorf("kind %d, %d Args: %d", kind, n, e)
			}
		}
	}
}

// TestP102Zero: zero values in each place.
func TestP102Zero(t *testing.T) {
	mayNot(t, "a token", tokens(api.Token{}))
	mayNot(t, "a token without a name", tokens(api.Token{Regex: "a"}))
	mayNot(t, "a token without an expression", tokens(api.Token{Name: "a"}))
	mayNot(t, "a production", prods(api.Prod{}))
	mayNot(t, "a production without Left", prods(api.Prod{Right: []string{"a"}}))
	mayNot(t, "a note", notes(api.Note{}))
	mayNot(t, "a note without Args", notes(api.Note{Kind: api.List}))
	mayNot(t, "a note without a kind", notes(api.Note{Args: []string{"a", "a"}}))
	mayNot(t, "a name on a right side", prods(prod("a", "")))
	writes(t, api.Grammar{}, "")
}

// TestP102Long: texts that are just not too long, and too long.
func TestP102Long(t *testing.T) {
	var all api.Grammar
	all.Start = "s"
	all.Prods = []api.Prod{prod("s", "a")}
	all.Notes = []api.Note{note(api.Hole, "s", "a")}
	for _, c := range []struct {
		name   string
		g      api.Grammar
		tokens int
		class  int
	}{
		{"one token", api.Grammar{}, 1, 0},
		{"one token with a class", api.Grammar{}, 1, 4},
		{"32 tokens", api.Grammar{}, 32, 0},
		{"each thing", all, 3, 1},
	} {
		g := c.g
		for range c.tokens {
			g.Tokens = append(g.Tokens, token("a", "x", c.class))
		}
		room := 4000 - len(plainText(g))
		g.Tokens[0].Regex += strings.Repeat("y", room)
		s, e := Text(g)
		if e != api.OK || len(s) != 4000 || s != plainText(g) {
			t.Errorf("%s: %d bytes, %d", c.name, len(s), e)
		}
		if h, e := Read(s); e != api.OK || !same(g, h) {
			t.Errorf("%s: read again: %d", c.name, e)
		}
		last := &g.Tokens[len(g.Tokens)-1].Regex
		for _, more := range []string{"y", "é", strings.Repeat("y", 4000), strings.Repeat("y", 1<<20)} {
			keep := *last
			*last += more
			if s, e := Text(g); s != "" || e != api.ErrLimit || !Right(g) {
				t.Errorf("%s: %d bytes more: %.20q, %d, %v", c.name, len(more), s, e, Right(g))
			}
			*last = keep
		}
		g.Start += "xs"
		if s, e := Text(g); s != "" || e != api.ErrLimit {
			t.Errorf("%s: another start: %.20q, %d", c.name, s, e)
		}
	}
	name := "abcdefghijklmnop"
	g := prods(slices.Repeat([]api.Prod{prod(name, slices.Repeat([]string{name}, 8)...)}, 64)...)
	if s, e := Text(g); s != "" || e != api.ErrLimit || !Right(g) {
		t.Errorf("64 long productions: %.20q, %d", s, e)
	}
	g.Tokens = []api.Token{{Name: "1", Regex: strings.Repeat("a", 5000)}}
	mayNot(t, "too long, but may not be", g)
}

// TestP102Huge: expressions that are the same memory take none to speak of.
func TestP102Huge(t *testing.T) {
	x := strings.Repeat("a", 1<<20)
	g := tokens(slices.Repeat([]api.Token{token("a", x, 0)}, 32)...)
	if s, e := Text(g); s != "" || e != api.ErrLimit {
		t.Errorf("%.20q, %d", s, e)
	}
	var ahead, behind runtime.MemStats
	runtime.ReadMemStats(&ahead)
	Text(g)
	runtime.ReadMemStats(&behind)
	if bytes := behind.TotalAlloc - ahead.TotalAlloc; bytes > 1<<20 {
		t.Errorf("%d bytes of memory", bytes)
	}
}

// TestP102Plain: grammars at random, right and wrong ones.
func TestP102Plain(t *testing.T) {
	some := rand.New(rand.NewSource(102))
	met := map[api.Errno]int{}
	for i := range 20000 {
		g := maker{Rand: some, wrong: i%2 == 0}.grammar([]int{2, 5, 12, 17, 33, 65}[some.Intn(6)])
		right := plainRight(g)
		if Right(g) != right {
			t.Fatalf("%+v: Right is %v", g, !right)
		}
		want, e := "", api.ErrArg
		if right {
			want, e = plainText(g), api.OK
		}
		if len(want) > 4000 {
			want, e = "", api.ErrLimit
		}
		s, f := Text(g)
		if s != want || e != f {
			t.Fatalf("%+v: %q, %d, want %q, %d", g, s, f, want, e)
		}
		met[f]++
		if f == api.OK {
			if h, e := Read(s); e != api.OK || !same(g, h) {
				t.Fatalf("%+v: read again: %+v, %d", g, h, e)
			}
		}
	}
	if met[api.OK] < 3000 || met[api.ErrArg] < 1000 || met[api.ErrLimit] < 10 {
		t.Errorf("too few of a kind: %v", met)
	}
}

// roomy is a grammar of new memory, whose lists have spare room in which something stands.
func roomy(g api.Grammar) api.Grammar {
	spare := func(l []string) []string { return append(slices.Clone(l), "!")[:len(l)] }
	h := api.Grammar{Start: g.Start}
	h.Tokens = append(slices.Clone(g.Tokens), token("!", "!", 77))[:len(g.Tokens)]
	for _, p := range g.Prods {
		h.Prods = append(h.Prods, prod(p.Left, spare(p.Right)...))
	}
	h.Prods = append(h.Prods, prod("!", "!"))[:len(g.Prods)]
	for _, n := range g.Notes {
		h.Notes = append(h.Notes, note(n.Kind, spare(n.Args)...))
	}
	h.Notes = append(h.Notes, note(77, "!"))[:len(g.Notes)]
	return h
}

// inRoom is a roomy grammar with what stands in its spare room.
func inRoom(g api.Grammar) api.Grammar {
	h := api.Grammar{Start: g.Start, Tokens: g.Tokens[:len(g.Tokens)+1]}
	for _, p := range g.Prods {
		h.Prods = append(h.Prods, prod(p.Left, p.Right[:len(p.Right)+1]...))
	}
	for _, n := range g.Notes {
		h.Notes = append(h.Notes, note(n.Kind, n.Args[:len(n.Args)+1]...))
	}
	h.Prods = append(h.Prods, g.Prods[:len(g.Prods)+1][len(g.Prods)])
	h.Notes = append(h.Notes, g.Notes[:len(g.Notes)+1][len(g.Notes)])
	return h
}

// TestP102Memory: a grammar that is given stays as it was, its spare room too.
func TestP102Memory(t *testing.T) {
	some := rand.New(rand.NewSource(1020))
	for i := range 2000 {
		g := maker{Rand: some, wrong: i%2 == 0}.grammar(6)
		r := roomy(g)
		was := lean(inRoom(r))
		first, e := Text(r)
		right := Right(r)
		if !reflect.DeepEqual(lean(inRoom(r)), was) {
			t.Fatalf("%+v turned: %+v", g, r)
		}
		if s, f := Text(r); s != first || e != f || Right(g) != right {
			t.Fatalf("%+v: another answer: %q, %q", g, first, s)
		}
	}
}

// TestP104: Read of Text is the grammar, with tokens of one name too.
func TestP104(t *testing.T) {
	back := func(g api.Grammar) {
		t.Helper()
		s, e := Text(g)
		h, f := Read(s)
		if e != api.OK || f != api.OK || !same(g, h) {
			t.Errorf("%+v: %+v, %d, %d", g, h, e, f)
		}
		if again, e := Text(h); again != s || e != api.OK {
			t.Errorf("%+v: its text is %q, then %q", g, s, again)
		}
	}
	back(api.Grammar{})
	for _, x := range []string{" ", "  ", " a", "a ", " a b ", "#", ": #", "a  b", "\t", "\r", "\x00", "é", "token a b"} {
		back(tokens(token("a", x, 0), skip("b", x), token("c", x, 9)))
	}
	for _, name := range []string{"token", "skip", "class", "start", "rule", "list", "delim", "hole"} {
		back(api.Grammar{Tokens: []api.Token{token(name, name, 1)}, Start: name, Prods: []api.Prod{prod(name), prod(name, name)}, Notes: []api.Note{note(api.List, name, name), note(api.List, name, name, name), note(api.Delim, name, name, name, name), note(api.Hole, name, name)}})
	}
	// One name, and one class, or one of them alone.
	back(tokens(token("a", "b", 0), token("a", "c", 0)))
	back(tokens(token("a", "b", 3), token("a", "c", 3)))
	back(tokens(token("a", "b", 3), skip("a", "b"), token("b", "b", 1)))
	back(tokens(skip("a", "b"), token("a", "b", 3)))
	// Unlike classes: each class line stands right behind its token, so that it says that token's, too.
	back(tokens(token("a", "b", 3), token("a", "c", 4)))
	back(tokens(token("a", "b", 4), token("c", "c", 9), token("a", "c", 3), token("a", "d", 0), token("a", "e", 1)))
	if g, e := Read("token a b\ntoken a c\nclass a 3\nclass a 4\n"); e != api.OK || !same(g, tokens(token("a", "b", 0), token("a", "c", 4))) {
		t.Errorf("two classes behind two tokens of one name: %v, %d", g, e)
	}
	some := rand.New(rand.NewSource(104))
	for range 5000 {
		g := maker{Rand: some}.grammar(12)
		if _, e := Text(g); e == api.OK {
			back(g)
		}
	}
}

// TestP104Lines: what a text says twice read and written is what it says once.
func TestP104Lines(t *testing.T) {
	some := rand.New(rand.NewSource(1040))
	count := 0
	for range 40000 {
		var b strings.Builder
		for range 1 + some.Intn(10) {
			b.WriteString(pieces[some.Intn(len(pieces))])
		}
		g, e := Read(b.String())
		if e != api.OK {
			continue
		}
		s, e := Text(g)
		h, f := Read(s)
		if e != api.OK || f != api.OK || !same(g, h) {
			t.Fatalf("%q: %+v, %+v, %d, %d", b.String(), g, h, e, f)
		}
		count++
	}
	if count < 1000 {
		t.Errorf("only %d texts were read", count)
	}
}
