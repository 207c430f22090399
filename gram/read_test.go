package gram

import (
	"math/rand"
	"slices"
	"strings"
	"testing"
	"unicode/utf8"
	"unsafe"

	"pleacher/api"
)

// token, skip and prod are what one line of that kind says.
func token(name, x string, class int) api.Token {
	return api.Token{Name: name, Regex: x, Class: class}
}
func skip(name, x string) api.Token { return api.Token{Name: name, Regex: x, Skip: true} }
func prod(left string, right ...string) api.Prod {
	return api.Prod{Left: left, Right: right}
}
func note(kind byte, args ...string) api.Note { return api.Note{Kind: kind, Args: args} }

// only are grammars of one kind of thing.
func tokens(l ...api.Token) api.Grammar { return api.Grammar{Tokens: l} }
func prods(l ...api.Prod) api.Grammar   { return api.Grammar{Prods: l} }
func notes(l ...api.Note) api.Grammar   { return api.Grammar{Notes: l} }

func TestP101Examples(t *testing.T) {
	reads(t, "token n [0-9]+\nrule s : n s", api.Grammar{Tokens: []api.Token{token("n", "[0-9]+", 0)}, Prods: []api.Prod{prod("s", "n", "s")}})
	refuses(t, "rule s n", api.ErrForm)
	refuses(t, "token 1 a", api.ErrName)
	refuses(t, "class x 3", api.ErrName)
}

// TestP101Whole: a description with each of the table's lines.
func TestP101Whole(t *testing.T) {
	s := strings.Join([]string{
		"# a grammar", "", "skip ws [ \\n]+", "token open \\(", "token close \\)", "token hole _", "token a [a-z]+", "class a 2", "class ws 1",
		"", "start l", "rule l :", "rule l : l e", "rule e : a", "rule e : hole", "rule e : open l close",
		"list l e", "list l e a", "delim e open l close", "hole e hole", "   # its end", "",
	}, "\n")
	ws := skip("ws", "[ \\n]+")
	ws.Class = 1
	want := api.Grammar{
		Tokens: []api.Token{ws, token("open", "\\(", 0), token("close", "\\)", 0), token("hole", "_", 0), token("a", "[a-z]+", 2)},
		Start:  "l",
		Prods:  []api.Prod{prod("l"), prod("l", "l", "e"), prod("e", "a"), prod("e", "hole"), prod("e", "open", "l", "close")},
		Notes:  []api.Note{note(api.List, "l", "e"), note(api.List, "l", "e", "a"), note(api.Delim, "e", "open", "l", "close"), note(api.Hole, "e", "hole")},
	}
	reads(t, s, want)
	reads(t, strings.TrimSuffix(s, "\n"), want)
	reads(t, "\n\n"+s+"\n\n", want)

	// Lines of unlike kinds may stand in any order, but class behind its token.
	lines := strings.Split(s, "\n")
	slices.Reverse(lines)
	refuses(t, strings.Join(lines, "\n"), api.ErrName)
	lines = slices.DeleteFunc(lines, func(l string) bool { return strings.HasPrefix(l, "class") })
	slices.Reverse(want.Tokens)
	want.Tokens[0].Class, want.Tokens[4].Class = 0, 0
	slices.Reverse(want.Prods)
	slices.Reverse(want.Notes)
	reads(t, strings.Join(lines, "\n"), want)
}

// TestP101Nothing: lines that say nothing, and such as only look like them.
func TestP101Nothing(t *testing.T) {
	for _, s := range []string{
		"", "\n", "\n\n\n", " ", "    ", " \n  \n", "#", "##", "#token", "#token 1 1", "# token", "  #", "   # rule", "#\x00\t\r é", "#a # b", "# x\n  # y\n\n #", " \n#\n ",
	} {
		reads(t, s, api.Grammar{})
		reads(t, s+"\nstart a\n"+s, api.Grammar{Start: "a"})
	}
	for _, s := range []string{
		"\t", "\r", "\r\n", "\v", "\f", "\x00", "\x1f", "\x7f", "\u00a0", "\u0085", "\u2003", "\u3000", "\u2028", "\ufeff", " \t ", "\t#", "\u00a0# a", "\ufeff#", ":", ": #", "a #", "a", "é", "1", "_", "//", ";",
	} {
		refuses(t, s, api.ErrForm)
		refuses(t, "start a\n"+s+"\n# b", api.ErrForm)
	}
}

// TestP101Hash: a # that doesn't begin a line's first word.
func TestP101Hash(t *testing.T) {
	reads(t, "token a #", tokens(token("a", "#", 0)))
	reads(t, "token a # b", tokens(token("a", "# b", 0)))
	reads(t, "skip a b #c", tokens(skip("a", "b #c")))
	refuses(t, "token # a", api.ErrName)
	refuses(t, "start #", api.ErrName)
	refuses(t, "start a #", api.ErrForm)
	refuses(t, "start a # b", api.ErrForm)
	refuses(t, "start a#", api.ErrName)
	refuses(t, "rule a : #", api.ErrName)
	refuses(t, "rule a : b # c", api.ErrName)
	refuses(t, "rule a # : b", api.ErrForm)
	refuses(t, "rule # : b", api.ErrName)
	refuses(t, "token a b\nclass a 3 # c", api.ErrForm)
	refuses(t, "list a #", api.ErrName)
	refuses(t, "list a b #", api.ErrName)
	refuses(t, "list a b c #", api.ErrForm)
	refuses(t, "start#", api.ErrForm)
	refuses(t, "s#art a", api.ErrForm)
}

// TestP101Blanks: blanks between words, at a line's beginning and its end, and bytes that are none.
func TestP101Blanks(t *testing.T) {
	for _, l := range []struct {
		line string
		want api.Grammar
	}{
		{"start a", api.Grammar{Start: "a"}},
		{"rule a :", prods(prod("a"))},
		{"rule a : b c", prods(prod("a", "b", "c"))},
		{"list a b", notes(note(api.List, "a", "b"))},
		{"list a b c", notes(note(api.List, "a", "b", "c"))},
		{"delim a b c d", notes(note(api.Delim, "a", "b", "c", "d"))},
		{"hole a b", notes(note(api.Hole, "a", "b"))},
	} {
		for _, wide := range []string{" ", "  ", "       "} {
			s := strings.ReplaceAll(l.line, " ", wide)
			reads(t, s, l.want)
			reads(t, wide+s, l.want)
			reads(t, s+wide, l.want)
			reads(t, wide+s+wide+"\n"+wide, l.want)
		}
		for _, no := range []string{"\t", "\r", "\v", "\f", "\x00", "\u00a0", "\u2003"} {
			if strings.HasPrefix(l.line, "rule") {
				refuses(t, no+l.line, api.ErrForm)
				refuses(t, strings.Replace(l.line, " :", no+":", 1), api.ErrForm)
				continue
			}
			refuses(t, l.line+no, api.ErrName)
			refuses(t, no+l.line, api.ErrForm)
			refuses(t, strings.Replace(l.line, " ", no, 1), api.ErrForm)
		}
	}
	refuses(t, "rule a :\r", api.ErrForm)
	refuses(t, "rule a : b\r", api.ErrName)
	refuses(t, "rule a : \r", api.ErrName)
	reads(t, "   token   a b\n  class    a    4   ", tokens(token("a", "b", 4)))
}

// TestP101Tokens: a name is behind blanks, an expression behind one.
func TestP101Tokens(t *testing.T) {
	for rest, x := range map[string]string{
		"a b": "b", "  a b": "b", "     a b": "b", "a  b": " b", "a   b": "  b", "a b ": "b ", "a b  ": "b  ", " a  b c  ": " b c  ",
		"a  ": " ", "a   ": "  ", "  a     ": "    ", "a \t": "\t", "a b\r": "b\r", "a \r": "\r", "a :": ":", "a a": "a", "a #": "#", "a é€😀": "é€😀", "a \x00\x7f": "\x00\x7f",
		"a token b c": "token b c", "a [": "[", "a 1": "1", "a \u00a0": "\u00a0",
	} {
		for _, ahead := range []string{" ", "  "} {
			reads(t, "token"+ahead+rest, tokens(token("a", x, 0)))
			reads(t, "skip"+ahead+rest, tokens(skip("a", x)))
			reads(t, ahead+"skip "+rest+"\nstart a", api.Grammar{Tokens: []api.Token{skip("a", x)}, Start: "a"})
		}
	}
	for _, rest := range []string{"", " ", "  ", "     ", " a", "  a", " a ", "   a ", " 1", " 1 ", " é", "a b", "\ta b", " a\tb", " a\u00a0b", "s a b", " abcdefghijklmnopq"} {
		for _, word := range []string{"token", "skip", "  token"} {
			refuses(t, word+rest, api.ErrForm)
			refuses(t, word+rest+"\nstart a", api.ErrForm)
		}
	}
	for _, rest := range []string{" 1 a", " 1  ", " é a", " a\tb c", "  _ a", " : a", " a- b", " a: b", " \t a", " abcdefghijklmnopq a"} {
		refuses(t, "token"+rest, api.ErrName)
		refuses(t, "skip"+rest, api.ErrName)
	}
	reads(t, "token a b\nskip a b\ntoken a c", tokens(token("a", "b", 0), skip("a", "b"), token("a", "c", 0)))
	reads(t, "token token token", tokens(token("token", "token", 0)))
	reads(t, "skip skip skip ", tokens(skip("skip", "skip ")))
	reads(t, "token a "+strings.Repeat("x", 3992), tokens(token("a", strings.Repeat("x", 3992), 0)))
}

// TestP101Class: which token has it, and what a number is.
func TestP101Class(t *testing.T) {
	for c := 1; c <= 9; c++ {
		reads(t, "token a b\nclass a "+string(rune('0'+c)), tokens(token("a", "b", c)))
	}
	for _, no := range []string{"0", "10", "11", "99", "01", "00", "-1", "+1", "1.", "a", ":", "#", "é", "\u0661", "\uff11", "1\r", "\t1", "/", "1:", "0x1"} {
		refuses(t, "token a b\nclass a "+no, api.ErrForm)
		refuses(t, "class a "+no, api.ErrForm)
		refuses(t, "class 1 "+no, api.ErrForm)
	}
	for _, form := range []string{"class", "class ", "class a", "class a ", "class 3", "class a 3 3", "class a 3 b", "class a b 3", "class 3 a", "classa 3"} {
		refuses(t, "token a b\n"+form, api.ErrForm)
	}
	for _, name := range []string{"b", "A", "aa", "1", "_", "é", "a:", "#", ":", "abcdefghijklmnopq", "token", "\u00a0"} {
		refuses(t, "token a b\nclass "+name+" 3", api.ErrName)
	}
	refuses(t, "class a 3\ntoken a b", api.ErrName)
	refuses(t, "start a\nrule a : a\nclass a 3", api.ErrName)
	two := func(c, d int) api.Grammar { return tokens(token("a", "b", c), token("a", "c", d)) }
	reads(t, "token a b\nclass a 3\ntoken a c", two(3, 0))
	reads(t, "token a b\ntoken a c\nclass a 3", two(0, 3))
	reads(t, "token a b\nclass a 3\ntoken a c\nclass a 4", two(3, 4))
	reads(t, "token a b\ntoken a c\nclass a 3\nclass a 4", two(0, 4))
	reads(t, "token a b\nclass a 3\nclass a 3", tokens(token("a", "b", 3)))
	reads(t, "token a b\nclass a 9\nclass a 1", tokens(token("a", "b", 1)))
	reads(t, "token a b\ntoken c d\ntoken A e\nclass a 9\nclass A 2", tokens(token("a", "b", 9), token("c", "d", 0), token("A", "e", 2)))
	ws := skip("a", "b")
	ws.Class = 5
	reads(t, "skip a b\nclass a 5", tokens(ws))
	reads(t, "token a c\nskip a b\nclass a 5\ntoken b d", tokens(token("a", "c", 0), ws, token("b", "d", 0)))
}

// TestP101Start: one start at most.
func TestP101Start(t *testing.T) {
	for _, form := range []string{"start", "start ", "start a b", "start a a", "start 1 1", "start : a", "starta", "Start a", "START a"} {
		refuses(t, form, api.ErrForm)
		refuses(t, "start a\n"+form, api.ErrForm)
	}
	for _, name := range []string{"1", "_", "é", ":", "a:", "a-b", "abcdefghijklmnopq"} {
		refuses(t, "start "+name, api.ErrName)
		refuses(t, "start a\nstart "+name, api.ErrName)
	}
	for _, s := range []string{"start a\nstart a", "start a\nstart b", "start a\nrule a : a\n\n# b\n  start  b  \n", "start a\nstart b\nfoo", "start a\nstart b\nstart 1"} {
		refuses(t, s, api.ErrTwice)
	}
}

// TestP101Rules: what stands behind a production's : , and where that stands.
func TestP101Rules(t *testing.T) {
	for s, want := range map[string]api.Prod{
		"rule a :": prod("a"), "rule a : ": prod("a"), "rule a : a": prod("a", "a"), "rule rule : rule rule": prod("rule", "rule", "rule"),
		"rule a : b c d e f g h i": prod("a", "b", "c", "d", "e", "f", "g", "h", "i"), "rule a : a a a a a a a a": prod("a", "a", "a", "a", "a", "a", "a", "a", "a"),
	} {
		reads(t, s, prods(want))
		reads(t, s+"\nrule z :\n"+s, prods(want, prod("z"), want))
	}
	for _, s := range []string{"rule", "rule ", "rule a", "rule a ", "rule 1", "rule :", "rule : a", "rule a:", "rule a: b", "rule a :b", "rule a:b", "rule a b", "rule a b :", "rule a b : c", "rule a :: b", "rule a ; b", "rule a - b", "rule 1 2", "rule a \uff1a b", "rules a : b", "rul a : b"} {
		refuses(t, s, api.ErrForm)
	}
	for _, s := range []string{"rule 1 :", "rule _ : a", "rule : :", "rule : : a", "rule # : a", "rule é :", "rule a : 1", "rule a : b 1", "rule a : 1 b", "rule a : :", "rule a : b :", "rule a : b : c", "rule a : |", "rule a : b c d e f g h -", "rule abcdefghijklmnopq :", "rule a : abcdefghijklmnopq"} {
		refuses(t, s, api.ErrName)
	}
	refuses(t, "rule a : b c d e f g h i j", api.ErrBig)
	refuses(t, "rule a :"+strings.Repeat(" b", 1990), api.ErrBig)
	refuses(t, "rule a : b c d e f g h i 1", api.ErrName)
	refuses(t, "rule 1 : b c d e f g h i j", api.ErrName)
	refuses(t, "rule a b c d e f g h i j k", api.ErrForm)
}

// TestP101Notes: how many names each kind has.
func TestP101Notes(t *testing.T) {
	names := []string{"a", "b1", "c_", "D", "e", "f"}
	for word, kind := range plainKinds {
		for n := range len(names) + 1 {
			line := func(names []string) string { return strings.Join(append([]string{word}, names...), " ") }
			fits := word == "delim" && n == 4 || word != "delim" && n == 2 || word == "list" && n == 3
			if fits {
				reads(t, line(names[:n]), notes(note(kind, names[:n]...)))
			} else {
				refuses(t, line(names[:n]), api.ErrForm)
			}
			for i := range n {
				for _, no := range []string{"1", "_", "é", ":", "a-", "abcdefghijklmnopq"} {
					wrong := slices.Clone(names[:n])
					wrong[i] = no
					if fits {
						refuses(t, line(wrong), api.ErrName)
					} else {
						refuses(t, line(wrong), api.ErrForm)
					}
				}
			}
		}
	}
	reads(t, "hole a b\nlist a b\nhole a b\nlist list list list", notes(note(api.Hole, "a", "b"), note(api.List, "a", "b"), note(api.Hole, "a", "b"), note(api.List, "list", "list", "list")))
	refuses(t, "list : a b", api.ErrName)
	refuses(t, "list a : b c", api.ErrForm)
}

// TestP101Words: first words that are none.
func TestP101Words(t *testing.T) {
	for _, word := range []string{"token", "skip", "class", "start", "rule", "list", "delim", "hole"} {
		for _, no := range []string{strings.ToUpper(word), strings.ToUpper(word[:1]) + word[1:], word + "s", word[1:], word[:len(word)-1], word + ":", ":" + word, word + "\t", "\u00a0" + word, word + "#", "é"} {
			for _, rest := range []string{"", " a", " a b", " a : b", " a 1", " a b c d"} {
				refuses(t, no+rest, api.ErrForm)
			}
		}
	}
}

// TestP101Names: names of all lengths, and at all edges, where a line has one.
func TestP101Names(t *testing.T) {
	for _, line := range []string{"token NAME a", "skip NAME a", "start NAME", "rule NAME :", "rule a : NAME", "rule a : b NAME c", "list NAME b", "list a NAME", "list a b NAME", "delim NAME b c d", "delim a b c NAME", "hole NAME a", "hole a NAME", "token NAME b\nclass NAME 3"} {
		for name, is := range edgeNames() {
			if name == "" || strings.ContainsAny(name, " \n") {
				continue
			}
			want := api.OK
			switch {
			case !utf8.ValidString(name):
				want = api.ErrText
			case !is:
				want = api.ErrName
			}
			if _, e := Read(strings.ReplaceAll(line, "NAME", name)); e != want {
				t.Errorf("%q of %q: %d, want %d", line, name, e, want)
			}
		}
	}
}

// TestP101Many: as many of each thing as may be, and one more.
func TestP101Many(t *testing.T) {
	for _, c := range []struct {
		line string
		most int
		g    api.Grammar
	}{
		{"token a b\n", 32, tokens(slices.Repeat([]api.Token{token("a", "b", 0)}, 32)...)},
		{"skip a b\n", 32, tokens(slices.Repeat([]api.Token{skip("a", "b")}, 32)...)},
		{"rule a : b\n", 64, prods(slices.Repeat([]api.Prod{prod("a", "b")}, 64)...)},
		{"rule a :\n", 64, prods(slices.Repeat([]api.Prod{prod("a")}, 64)...)},
		{"list a b\n", 16, notes(slices.Repeat([]api.Note{note(api.List, "a", "b")}, 16)...)},
		{"list a b c\n", 16, notes(slices.Repeat([]api.Note{note(api.List, "a", "b", "c")}, 16)...)},
		{"delim a b c d\n", 16, notes(slices.Repeat([]api.Note{note(api.Delim, "a", "b", "c", "d")}, 16)...)},
		{"hole a b\n", 16, notes(slices.Repeat([]api.Note{note(api.Hole, "a", "b")}, 16)...)},
	} {
		most := strings.Repeat(c.line, c.most)
		reads(t, most, c.g)
		refuses(t, most+c.line, api.ErrBig)
		refuses(t, most+"\n# \n"+c.line+"foo", api.ErrBig)
		refuses(t, most+"foo\n"+c.line, api.ErrForm)
		refuses(t, most+strings.Replace(c.line, "a", "1", 1), api.ErrName)
		first, _, _ := strings.Cut(c.line, " ")
		refuses(t, most+first, api.ErrForm)
	}
	refuses(t, strings.Repeat("token a b\nskip c d\n", 16)+"skip e f", api.ErrBig)
	refuses(t, strings.Repeat("list a b\nhole a b\n", 8)+"delim a b c d", api.ErrBig)
	refuses(t, strings.Repeat("rule a :\n", 64)+"rule a : a a a a a a a a a", api.ErrBig)
	all := strings.Repeat("token a b\n", 32) + strings.Repeat("rule a :\n", 64) + strings.Repeat("hole a b\n", 16) + "start a\n" + strings.Repeat("class a 7\n", 40)
	g, e := Read(all)
	if e != api.OK || len(g.Tokens) != 32 || len(g.Prods) != 64 || len(g.Notes) != 16 || g.Start != "a" || g.Tokens[31].Class != 7 || !Right(g) {
		t.Errorf("%v, %d", g, e)
	}
}

// TestP101Long: as many bytes as may be, and one more; and texts that aren't whole.
func TestP101Long(t *testing.T) {
	for n, want := range map[int]api.Errno{3999: api.OK, 4000: api.OK, 4001: api.ErrLimit, 4002: api.ErrLimit, 100000: api.ErrLimit} {
		for _, c := range []string{"#", " ", "\n"} {
			if g, e := Read(strings.Repeat(c, n)); e != want || !same(g, api.Grammar{}) {
				t.Errorf("%d of %q: %v, %d, want %d", n, c, g, e, want)
			}
		}
		if _, e := Read("#" + strings.Repeat("x", n-4) + "€"); e != want {
			t.Errorf("%d bytes with a sign of three: %d, want %d", n, e, want)
		}
	}
	refuses(t, strings.Repeat("x", 4000), api.ErrForm)
	refuses(t, strings.Repeat("x", 4001), api.ErrLimit)
	refuses(t, "#"+strings.Repeat("\xff", 3999), api.ErrText)
	refuses(t, "#"+strings.Repeat("\xff", 4000), api.ErrLimit)
	refuses(t, strings.Repeat("\n", 3998)+"\xe2\x82", api.ErrText)
	refuses(t, strings.Repeat("\n", 3998)+"\xe2\x82\xac", api.ErrLimit)
	for _, no := range []string{"\x80", "\xff", "\xc3", "é\xa9", "\xe2\x82", "\xc0\x80", "\xed\xa0\x80", "\xf4\x90\x80\x80"} {
		for _, s := range []string{"", "#", "# a ", "start a\n#", "token a ", "foo\n", "start 1\n", "start a\nstart b\n", strings.Repeat("hole a b\n", 17)} {
			refuses(t, s+no, api.ErrText)
			refuses(t, no+"\n"+s, api.ErrText)
			refuses(t, s+no+"\nstart a", api.ErrText)
		}
	}
}

// TestP101Order: of two faults in one line, and in two lines, which one is told.
func TestP101Order(t *testing.T) {
	faults := []struct {
		line string
		want api.Errno
	}{
		{"foo", api.ErrForm}, {"token a", api.ErrForm}, {"token 1 ", api.ErrForm}, {"class 1 0", api.ErrForm}, {"rule 1 2", api.ErrForm}, {"start 1 2", api.ErrForm}, {"hole 1", api.ErrForm},
		{"token 1 a", api.ErrName}, {"class b 3", api.ErrName}, {"start 1", api.ErrName}, {"rule a : 1 a a a a a a a a", api.ErrName}, {"hole a 1", api.ErrName},
		{"start b", api.ErrTwice}, {"rule a : a a a a a a a a a", api.ErrBig}, {"token a b", api.ErrBig}, {"skip a b", api.ErrBig}, {"list a b", api.ErrBig}, {"delim a b c d", api.ErrBig}, {"rule a :", api.ErrBig},
	}
	full := "start a\n" + strings.Repeat("token a b\n", 32) + strings.Repeat("rule a :\n", 64) + strings.Repeat("hole a b\n", 16)
	for _, f := range faults {
		for _, g := range faults {
			refuses(t, full+f.line+"\n"+g.line, f.want)
			refuses(t, full+"#"+g.line+"\n"+f.line+"\n\n"+g.line+"\n"+f.line, f.want)
		}
		refuses(t, full+f.line+"\n#\xff", api.ErrText)
	}
}

// pieces are what descriptions are put together of at random.
var pieces = []string{
	"token", "skip", "class", "start", "rule", "list", "delim", "hole", " ", " ", " ", " ", " ", "  ", "\n", "\n", "\n", ":", ":", "#", "a", "b", "c", "a", "b", "3", "9", "0", "a1", "abcdefghijklmnop", "q", "é", "\t", "\r", "_", "\x80",
	"token a b\n", "skip b  c \n", "class a 4\n", "start s\n", "start a\n", " start  b \n", "rule s : a b\n", "rule a :\n", "list a b\n", "list a b c\n", "delim a b c d\n", "hole a b\n", "# x\n", "\n\n",
}

// TestP101Plain: texts of pieces at random, read as the words say.
func TestP101Plain(t *testing.T) {
	some := rand.New(rand.NewSource(101))
	met := map[api.Errno]int{}
	for range 60000 {
		var b strings.Builder
		for range 1 + some.Intn(12) {
			b.WriteString(pieces[some.Intn(len(pieces))])
		}
		compare(t, b.String(), met)
	}
	// Most texts that may be, and their faults, are but one byte away from what can be written.
	for range 20000 {
		s := []byte(plainText(maker{Rand: some}.grammar(4)))
		for range some.Intn(3) {
			if len(s) > 0 {
				s[some.Intn(len(s))] = " \n#:a1_\xc3\xa9"[some.Intn(9)]
			}
		}
		compare(t, string(s), met)
	}
	for e, least := range map[api.Errno]int{api.OK: 2000, api.ErrText: 500, api.ErrForm: 2000, api.ErrName: 1000, api.ErrTwice: 100} {
		if met[e] < least {
			t.Errorf("only %d texts were answered by %d", met[e], e)
		}
	}
}

// compare holds Read of a text against the words, and counts how it was answered.
func compare(t *testing.T, s string, met map[api.Errno]int) {
	t.Helper()
	g, e := Read(s)
	met[e]++
	if want, f := plainRead(s); e != f || !same(g, want) {
		t.Fatalf("%q: %v, %d, want %v, %d", s, g, e, want, f)
	}
	if e == api.OK && !Right(g) {
		t.Fatalf("%q: %v may not be", s, g)
	}
}

// TestP101Memory: an answer shares no memory with its text, nor with another answer, nor its lists with one another.
func TestP101Memory(t *testing.T) {
	s := strings.Clone("token a b\nskip c d\nclass a 3\nstart s\nrule s : a s\nrule s :\nrule s : a\nlist s a\nlist s a b\ndelim s a s b\nhole s a\n")
	g, _ := Read(s)
	h, _ := Read(s)
	keep := lean(h)
	from := uintptr(unsafe.Pointer(unsafe.StringData(s)))
	of := func(w string) {
		if at := uintptr(unsafe.Pointer(unsafe.StringData(w))); at >= from && at < from+uintptr(len(s)) {
			t.Errorf("%q is a piece of the text", w)
		}
	}
	of(g.Start)
	for i := range g.Tokens {
		of(g.Tokens[i].Name)
		of(g.Tokens[i].Regex)
	}
	var lists []*[]string
	for i := range g.Prods {
		of(g.Prods[i].Left)
		lists = append(lists, &g.Prods[i].Right)
	}
	for i := range g.Notes {
		lists = append(lists, &g.Notes[i].Args)
	}
	for i, l := range lists {
		names := *l
		*l = nil
		others := lean(g)
		for k, w := range names[:cap(names)] {
			of(w)
			names[:cap(names)][k] = "!"
		}
		if !same(g, others) {
			t.Errorf("list %d shares memory: %v, not %v", i, g, others)
		}
	}
	clear(g.Tokens[:cap(g.Tokens)])
	clear(g.Prods[:cap(g.Prods)])
	clear(g.Notes[:cap(g.Notes)])
	if !same(h, keep) {
		t.Errorf("another answer turned: %v, not %v", h, keep)
	}
	if again, e := Read(s); e != api.OK || !same(again, keep) {
		t.Errorf("read again: %v, %d", again, e)
	}
}
