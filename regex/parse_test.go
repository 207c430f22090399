package regex

import (
	"math/rand"
	"strings"
	"testing"

	"pleacher/api"
)

// a and b are the expressions of these signs.
func a() api.Regex { return oneOf('a') }
func b() api.Regex { return oneOf('b') }

// check holds Parse against an expression and an error; beside an error nothing else is answered.
func check(t *testing.T, s string, want api.Regex, code api.Errno) {
	t.Helper()
	x, e := Parse(s)
	if e != code || !same(x, want) {
		t.Errorf("Parse(%q): %s, %d, want %s, %d", s, show(x), e, show(want), code)
	}
}

// reads holds Parse against an expression.
func reads(t *testing.T, s string, want api.Regex) {
	t.Helper()
	check(t, s, want, api.OK)
}

// refuses holds Parse against an error.
func refuses(t *testing.T, s string, code api.Errno) {
	t.Helper()
	check(t, s, api.Regex{}, code)
}

// plainly holds Parse against the plain reader, by which a text is never read in two ways.
func plainly(t *testing.T, s string) {
	t.Helper()
	want, code, ways := plainParse(s)
	if ways > 1 {
		t.Errorf("%q is read in %d ways", s, ways)
	}
	check(t, s, want, code)
}

func TestExamples(t *testing.T) {
	reads(t, "a|b*", altOf(a(), starOf(b())))
	reads(t, "a**", starOf(starOf(a())))
	for _, s := range []string{"*", "[]", "[b-a]", `a\q`} {
		refuses(t, s, api.ErrRegex)
	}
	x, _ := Parse("a|b*")
	for _, s := range []string{"a", "", "bbb"} {
		if !Matches(x, s) {
			t.Errorf("a|b* doesn't match %q", s)
		}
	}
	if x, e := Parse("[a-c]+"); e != api.OK || !Matches(x, "cab") {
		t.Errorf("[a-c]+: %d", e)
	}
}

func TestP61Shapes(t *testing.T) {
	c := oneOf('c')
	for s, want := range map[string]api.Regex{
		"":          nilOf(),
		"a":         a(),
		"ab":        catOf(a(), b()),
		"abc":       catOf(a(), b(), c),
		"(a)":       a(),
		"((((a))))": a(),
		"()":        nilOf(),
		"(())":      nilOf(),
		"()()":      catOf(nilOf(), nilOf()),
		"a()":       catOf(a(), nilOf()),
		"(ab)c":     catOf(catOf(a(), b()), c),
		"a(bc)":     catOf(a(), catOf(b(), c)),
		"|":         altOf(nilOf(), nilOf()),
		"||":        altOf(nilOf(), nilOf(), nilOf()),
		"a|":        altOf(a(), nilOf()),
		"|a":        altOf(nilOf(), a()),
		"a||b":      altOf(a(), nilOf(), b()),
		"a|b|c":     altOf(a(), b(), c),
		"(a|b)|c":   altOf(altOf(a(), b()), c),
		"a|(b|c)":   altOf(a(), altOf(b(), c)),
		"(|)":       altOf(nilOf(), nilOf()),
		"ab|c":      altOf(catOf(a(), b()), c),
		"a|bc":      altOf(a(), catOf(b(), c)),
		"a(b|)c":    catOf(a(), altOf(b(), nilOf()), c),
		"a*":        starOf(a()),
		"a+":        catOf(a(), starOf(a())),
		"a?":        altOf(a(), nilOf()),
		"ab*":       catOf(a(), starOf(b())),
		"(ab)*":     starOf(catOf(a(), b())),
		"(a|b)+":    catOf(altOf(a(), b()), starOf(altOf(a(), b()))),
		"(ab)?":     altOf(catOf(a(), b()), nilOf()),
		"()*":       starOf(nilOf()),
		"()+":       catOf(nilOf(), starOf(nilOf())),
		"()?":       altOf(nilOf(), nilOf()),
		"(|a)*":     starOf(altOf(nilOf(), a())),
		"a|b*|c":    altOf(a(), starOf(b()), c),
		"[a]":       a(),
		"[ab]":      oneOf('a', 'b'),
		"[a-c]*b":   catOf(starOf(oneOf('a', 'b', 'c')), b()),
		".":         anyBut(),
		"..":        catOf(anyBut(), anyBut()),
		".*":        starOf(anyBut()),
		"[^a]":      anyBut('a'),
		"[^a]?":     altOf(anyBut('a'), nilOf()),
		"a b":       catOf(a(), oneOf(' '), b()),
		"-^":        catOf(oneOf('-'), oneOf('^')),
		"{}/$\"":    catOf(oneOf('{'), oneOf('}'), oneOf('/'), oneOf('$'), oneOf('"')),
		"^a$":       catOf(oneOf('^'), a(), oneOf('$')),
		"\x00\x7f":  catOf(oneOf(0), oneOf(127)),
		"a\nb":      catOf(a(), oneOf(10), b()),
		"n":         oneOf('n'),
		`\n`:        oneOf(10),
		`\n*\\`:     catOf(starOf(oneOf(10)), oneOf('\\')),
		`\**`:       starOf(oneOf('*')),
		`\\\\`:      catOf(oneOf('\\'), oneOf('\\')),
		`\(a\)`:     catOf(oneOf('('), a(), oneOf(')')),
		`(\)|\|)`:   altOf(oneOf(')'), oneOf('|')),
		`\[a\]`:     catOf(oneOf('['), a(), oneOf(']')),
	} {
		reads(t, s, want)
	}
}

// TestP61Repeats: * + ? as often as one likes, each for all that stands ahead of it.
func TestP61Repeats(t *testing.T) {
	opt := func(x api.Regex) api.Regex { return altOf(x, nilOf()) }
	more := func(x api.Regex) api.Regex { return catOf(x, starOf(x)) }
	reads(t, "a*?", opt(starOf(a())))
	reads(t, "a?*", starOf(opt(a())))
	reads(t, "a+*", starOf(more(a())))
	reads(t, "a*+", more(starOf(a())))
	reads(t, "a+?", opt(more(a())))
	reads(t, "a?+", more(opt(a())))
	reads(t, "a??", opt(opt(a())))
	reads(t, "a++", more(more(a())))
	reads(t, "a***", starred(3, a()))
	reads(t, "a*+?*", starOf(opt(more(starOf(a())))))
	reads(t, "(a*)*", starred(2, a()))
	reads(t, "é+", more(catOf(oneOf(195), oneOf(169))))
	reads(t, ".+", more(anyBut()))
}

// TestP61Signs: signs of one to four bytes, and each below 128.
func TestP61Signs(t *testing.T) {
	reads(t, "é", catOf(oneOf(195), oneOf(169)))
	reads(t, "€", catOf(oneOf(226), oneOf(130), oneOf(172)))
	reads(t, "😀", catOf(oneOf(240), oneOf(159), oneOf(152), oneOf(128)))
	reads(t, "\u0080", catOf(oneOf(194), oneOf(128)))
	reads(t, "\U0010ffff", catOf(oneOf(244), oneOf(143), oneOf(191), oneOf(191)))
	reads(t, "aé*b", catOf(a(), starOf(catOf(oneOf(195), oneOf(169))), b()))
	reads(t, "\ufffd", catOf(oneOf(239), oneOf(191), oneOf(189)))
	for c := range 128 {
		s := string(rune(c))
		if strings.Contains(`|*+?()[].\`, s) {
			continue
		}
		reads(t, s, oneOf(byte(c)))
		reads(t, "a"+s+"*", catOf(a(), starOf(oneOf(byte(c)))))
	}
}

// TestP61Meant: the signs that don't stand for themselves, where they may and may not stand.
func TestP61Meant(t *testing.T) {
	for _, s := range []string{
		"*", "+", "?", "**", "a|*", "a|+b", "|?", "(*)", "(+a)", "(?:a)", "(|*a)", "*a", "a(*", "()(?)",
		"(", ")", "((", "))", ")(", "(a", "a)", "(a))", "((a)", "a(", "(|", "|)", "(a|b", "a|b)", "(]", "[)",
		"[", "]", "a]", "]a", "[a]]", "a[", "[a", "[[", "][", "(a]", "a|]", "[a-z", "[a-", "[^", "[^a", "[a][",
		"\\", "a\\", "(\\", "[\\", "[a\\", "[a-\\", "|\\", "a*\\", `\\\`,
	} {
		refuses(t, s, api.ErrRegex)
	}
	reads(t, "(|)|", altOf(altOf(nilOf(), nilOf()), nilOf()))
	reads(t, "[|*+?()[.]", oneOf([]byte("|*+?()[.")...))
	reads(t, "[[]", oneOf('['))
	reads(t, "[.]", oneOf('.'))
	reads(t, "[*]*", starOf(oneOf('*')))
}

// TestP61Escapes: each sign behind a backslash, outside of a class and inside.
func TestP61Escapes(t *testing.T) {
	means := map[rune]byte{'n': 10, 't': 9, 'r': 13}
	for _, c := range `|*+?()[].\-^` {
		means[c] = byte(c)
	}
	if len(means) != 15 {
		t.Fatal(len(means))
	}
	signs := []rune("é€😀ñ\u0080\u012e\ufffd\U0010ffff")
	for c := range rune(128) {
		signs = append(signs, c)
	}
	for _, c := range signs {
		s := `\` + string(c)
		want, ok := means[c]
		if !ok {
			for _, text := range []string{s, "a" + s, s + "b", "(" + s + ")", "[" + s + "]", "[^" + s + "]", "[!-" + s + "]", "[" + s + "-~]"} {
				refuses(t, text, api.ErrRegex)
			}
			continue
		}
		reads(t, s, oneOf(want))
		reads(t, "a"+s+"b", catOf(a(), oneOf(want), b()))
		reads(t, "("+s+")*", starOf(oneOf(want)))
		reads(t, "["+s+"]", oneOf(want))
		reads(t, "[^"+s+"]", anyBut(want))
		reads(t, "["+s+"-~]", oneFrom(int(want), '~'))
		reads(t, "[\x00-"+s+"]", oneFrom(0, int(want)))
		reads(t, "["+s+"-"+s+"]", oneOf(want))
	}
}

// TestP61Members: each sign bare inside of a class, alone, at an item's beginning and at its end.
func TestP61Members(t *testing.T) {
	for c := range 128 {
		s := string(rune(c))
		if strings.Contains(`]\-^`, s) {
			continue
		}
		reads(t, "["+s+"]", oneOf(byte(c)))
		reads(t, "[^"+s+"]", anyBut(byte(c)))
		reads(t, "["+s+"-\x7f]", oneFrom(c, 127))
		reads(t, "[\x00-"+s+"]", oneFrom(0, c))
		reads(t, "[a"+s+"b]", oneOf('a', byte(c), 'b'))
	}
	for _, s := range []string{"\u0080", "é", "€", "😀", "\ufffd"} {
		for _, text := range []string{"[" + s + "]", "[^" + s + "]", "[a" + s + "]", "[a-" + s + "]", "[" + s + "-" + s + "]", "[" + s + "-a]"} {
			refuses(t, text, api.ErrRegex)
		}
	}
}

// TestP61Ranges: all X-Y of signs below 128.
func TestP61Ranges(t *testing.T) {
	member := func(c int) string {
		if strings.ContainsRune(`]\-^`, rune(c)) {
			return `\` + string(rune(c))
		}
		return string(rune(c))
	}
	for lo := range 128 {
		for hi := range 128 {
			s := "[" + member(lo) + "-" + member(hi) + "]"
			if lo > hi {
				refuses(t, s, api.ErrRegex)
			} else {
				reads(t, s, oneFrom(lo, hi))
			}
		}
	}
}

func TestP61Classes(t *testing.T) {
	var low []byte
	for c := range 128 {
		low = append(low, byte(c))
	}
	for s, want := range map[string]api.Regex{
		"[a-a]":        a(),
		"[a-ac]":       oneOf('a', 'c'),
		"[a-cx-z]":     oneOf([]byte("abcxyz")...),
		"[a-cb-d]":     oneOf([]byte("abcd")...),
		"[aa]":         a(),
		"[ca]":         oneOf('a', 'c'),
		"[0-9A-Fa-f_]": oneOf([]byte("0123456789ABCDEFabcdef_")...),
		`[\-]`:         oneOf('-'),
		`[a\-z]`:       oneOf('a', '-', 'z'),
		`[+-\-]`:       oneOf('+', ',', '-'),
		`[\--/]`:       oneOf('-', '.', '/'),
		`[\]-\^]`:      oneOf(']', '^'),
		`[\[-\]]`:      oneOf('[', '\\', ']'),
		`[^\^]`:        anyBut('^'),
		`[\^a]`:        oneOf('^', 'a'),
		`[^\]\-\\]`:    anyBut(']', '-', '\\'),
		`[\n\t\r]`:     oneOf(9, 10, 13),
		`[\t-\r]`:      oneOf(9, 10, 11, 12, 13),
		`[^\n]`:        anyBut(),
		"[^\n]":        anyBut(),
		"[\n]":         oneOf(10),
		"[^a-c]":       anyBut('a', 'b', 'c'),
		"[^a][b]":      catOf(anyBut('a'), b()),
		"[[:alpha:]":   oneOf([]byte("[:alph")...),
		"[a]b":         catOf(a(), b()),
		"[(]":          oneOf('('),
		"([)])":        oneOf(')'),
		"[|]|[|]":      altOf(oneOf('|'), oneOf('|')),
		"[\x00-\x7f]":  oneFrom(0, 127),
		"[^\x00-\x7f]": anyBut(low...),
	} {
		reads(t, s, want)
	}
	for _, s := range []string{
		"[]", "[^]", "[]]", "[]a]", "[^]a]", "[-]", "[^-]", "[a-]", "[-a]", "[^-a]", "[a--]", "[--a]", "[---]", "[a-b-c]", "[a-b-]", "[+--]",
		"[^^]", "[^^a]", "[a^]", "[a-^]", "[^-a]", "[^a^]", "[X-^]", "[b-a]", "[z-a]", "[ab-a]", "[1-0]", "[a-b", "[a-]b]", "[X-]]", `[\]-\[]`,
		`[a\]`, `[\]`, `[\q]`, `[a-\q]`, `[\d]`, `[\x41]`, "[a-é]", "[[:alpha:]]]", "[^", "[^a", "[^a-",
	} {
		refuses(t, s, api.ErrRegex)
	}
}

// TestP61Long: texts of 100 bytes and more; that there are too many is told ahead of all else.
func TestP61Long(t *testing.T) {
	long := strings.Repeat("a", 99)
	reads(t, long, catOf(manyOf(99, a())...))
	reads(t, long+"b", catOf(append(manyOf(99, a()), b())...))
	reads(t, "["+strings.Repeat("ab", 49)+"]", oneOf('a', 'b'))
	reads(t, strings.Repeat("(", 50)+strings.Repeat(")", 50), nilOf())
	reads(t, strings.Repeat("|", 100), altOf(manyOf(101, nilOf())...))
	reads(t, strings.Repeat("é", 50), catOf(manyOf(50, plainSign('é'))...))
	for _, s := range []string{")", "|*", "[", "\\", "(", "\xff"} {
		refuses(t, long[:100-len(s)]+s, api.ErrRegex)
		refuses(t, long[:100-len(s)]+s+"a", api.ErrBig)
		refuses(t, s+long+"a", api.ErrBig)
	}
	refuses(t, long+"aa", api.ErrBig)
	refuses(t, long+"é", api.ErrBig)
	refuses(t, "["+strings.Repeat("ab", 49)+"b]", api.ErrBig)
	refuses(t, strings.Repeat("(", 101), api.ErrBig)
	refuses(t, strings.Repeat("😀", 25)+"a", api.ErrBig)
	refuses(t, strings.Repeat("a", 100000), api.ErrBig)
	refuses(t, strings.Repeat("(", 100), api.ErrRegex)
	refuses(t, strings.Repeat("[", 100), api.ErrRegex)
	refuses(t, strings.Repeat("\\", 99), api.ErrRegex)
	reads(t, strings.Repeat("\\", 100), catOf(manyOf(50, oneOf('\\'))...))
}

// TestP61NotWhole: texts that aren't signs.
func TestP61NotWhole(t *testing.T) {
	for _, s := range []string{
		"\xff", "\x80", "\xc3", "a\xc3", "\xa9a", "\xe2\x82", "\xf0\x9f\x98", "\xc0\x80", "\xed\xa0\x80", "\xf4\x90\x80\x80",
		"[\xff]", "[a\x80]", "[^\xc3]", "\\\xff", "(\xff)", "a*\xff", "a|\xff", ")\xff", "\xff)",
	} {
		refuses(t, s, api.ErrRegex)
		whole := s + strings.Repeat("a", 100-len(s))
		refuses(t, whole, api.ErrRegex)
		refuses(t, whole+"a", api.ErrBig)
	}
}

// TestP61Nodes: expressions of 400 nodes and of one more.
func TestP61Nodes(t *testing.T) {
	// Each + makes of n nodes 2n + 2: seven of them make 382 of one.
	most := a()
	for range 7 {
		most = catOf(most, starOf(most))
	}
	reads(t, "a+++++++", most)
	reads(t, "a+++++++"+strings.Repeat("b", 17), catOf(append([]api.Regex{most}, manyOf(17, b())...)...))
	refuses(t, "a+++++++"+strings.Repeat("b", 18), api.ErrBig)
	reads(t, strings.Repeat("b", 17)+"(a+++++++)", catOf(append(manyOf(17, b()), most)...))
	refuses(t, strings.Repeat("b", 18)+"(a+++++++)", api.ErrBig)
	refuses(t, "a++++++++", api.ErrBig)
	reads(t, "a+++++++"+strings.Repeat("*", 18), starred(18, most))
	refuses(t, "a+++++++"+strings.Repeat("*", 19), api.ErrBig)
	// A dot has 14 nodes: 28 of them make 393 with their Cat.
	dots := manyOf(28, anyBut())
	reads(t, strings.Repeat(".", 28)+"abababa", catOf(append(dots, a(), b(), a(), b(), a(), b(), a())...))
	refuses(t, strings.Repeat(".", 28)+"abababab", api.ErrBig)
	reads(t, strings.Repeat(".", 28)+"éa?a", catOf(append(dots, plainSign('é'), altOf(a(), nilOf()), a())...))
	refuses(t, strings.Repeat(".", 28)+"éa?a*", api.ErrBig)
	refuses(t, strings.Repeat(".", 29), api.ErrBig)
	reads(t, strings.Repeat("[^a]", 25), catOf(manyOf(25, anyBut('a'))...))
}

// TestP61Deep: expressions that are 60 deep and one more.
func TestP61Deep(t *testing.T) {
	reads(t, "a"+strings.Repeat("*", 59), starred(59, a()))
	refuses(t, "a"+strings.Repeat("*", 60), api.ErrBig)
	refuses(t, "a"+strings.Repeat("*", 99), api.ErrBig)
	reads(t, "ba"+strings.Repeat("*", 58), catOf(b(), starred(58, a())))
	refuses(t, "ba"+strings.Repeat("*", 59), api.ErrBig)
	reads(t, "é"+strings.Repeat("*", 58), starred(58, plainSign('é')))
	refuses(t, "é"+strings.Repeat("*", 59), api.ErrBig)
	reads(t, "."+strings.Repeat("*", 57), starred(57, anyBut()))
	refuses(t, "."+strings.Repeat("*", 58), api.ErrBig)
	reads(t, "("+strings.Repeat("(", 20)+"a"+strings.Repeat("*)", 20)+")"+strings.Repeat("*", 37), starred(57, a()))
	optional := a()
	for range 59 {
		optional = altOf(optional, nilOf())
	}
	reads(t, "a"+strings.Repeat("?", 59), optional)
	refuses(t, "a"+strings.Repeat("?", 60), api.ErrBig)
}

// TestP61BigOrNone: that a text is none is told ahead of that its expression is too big, wherever it is.
func TestP61BigOrNone(t *testing.T) {
	for _, big := range []string{"a++++++++", "a" + strings.Repeat("+", 20), "a" + strings.Repeat("*", 60), strings.Repeat(".", 29), "a" + strings.Repeat("+", 80), "(b" + strings.Repeat("?+", 40) + ")"} {
		refuses(t, big, api.ErrBig)
		refuses(t, "("+big+")", api.ErrBig)
		refuses(t, "b|"+big+"|c", api.ErrBig)
		refuses(t, big+"*", api.ErrBig)
		for _, none := range []string{")", "|*", "[]", "[b-a]", `\q`, "\\", "(", "[", "]", "\xff", "[é]"} {
			refuses(t, big+none, api.ErrRegex)
		}
		for _, none := range []string{")", "*", "[]", "[b-a]", `\q`, "(", "[", "]", "\xff", "[é]"} {
			refuses(t, none+big, api.ErrRegex)
		}
		refuses(t, "("+big+"))", api.ErrRegex)
	}
}

// TestP61AllShort: all short texts of the signs that mean something, and some longer ones, against the plain reader.
func TestP61AllShort(t *testing.T) {
	signs := []string{"a", "n", "é", "|", "*", "+", "?", "(", ")", "[", "]", ".", "\\", "-", "^"}
	for _, s := range textsOf(signs, 4) {
		plainly(t, s)
	}
	for _, s := range textsOf([]string{"a", "b", "é", "[", "]", "\\", "-", "^"}, 4) {
		plainly(t, "["+s+"]")
		plainly(t, "[^"+s)
	}
	for _, s := range textsOf([]string{"a", "|", "*", "(", ")"}, 6) {
		plainly(t, s)
	}
	some := rand.New(rand.NewSource(61))
	for range 30000 {
		var s strings.Builder
		for range 5 + some.Intn(6) {
			s.WriteString(signs[some.Intn(len(signs))])
		}
		plainly(t, s.String())
	}
}

// TestP61Bytes: all texts of two bytes.
func TestP61Bytes(t *testing.T) {
	for c := range 256 {
		for d := range 256 {
			plainly(t, string([]byte{byte(c), byte(d)}))
		}
	}
}

// TestP61New: no two lists of an answer share memory, and no answer shares any with another.
func TestP61New(t *testing.T) {
	for _, s := range []string{"(ab)+", "((ab)+|c)+++", "[^a]+", "(é|.)+?*"} {
		x, _ := Parse(s)
		y, _ := Parse(s)
		seen := map[*api.Regex]int{}
		lists(seen, x)
		lists(seen, y)
		for _, n := range seen {
			if n > 1 {
				t.Errorf("%q: a list is there %d times", s, n)
			}
		}
		spoil(x)
		if want, _, _ := plainParse(s); !same(y, want) {
			t.Errorf("%q: another answer became %s", s, show(y))
		}
		reads(t, s, y)
	}
}

// lists counts an expression's lists by where they begin.
func lists(seen map[*api.Regex]int, x api.Regex) {
	if len(x.Kids) > 0 {
		seen[&x.Kids[0]]++
	}
	for _, k := range x.Kids {
		lists(seen, k)
	}
}

// spoil writes over all lists of an expression, their spare room too.
func spoil(x api.Regex) {
	for _, k := range x.Kids {
		spoil(k)
	}
	l := x.Kids[:cap(x.Kids)]
	for i := range l {
		l[i] = api.Regex{Kind: 9}
	}
}
