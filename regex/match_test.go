package regex

import (
	"math/rand"
	"regexp"
	"slices"
	"strconv"
	"strings"
	"testing"

	"pleacher/api"
)

// wrong are expressions that may not be.
func wrong() map[string]api.Regex {
	l := map[string]api.Regex{
		"a Star without a kid":      starOf(),
		"a Star with two":           starOf(a(), b()),
		"a Star with two Nils":      starOf(nilOf(), nilOf()),
		"a Star with three":         starOf(a(), a(), a()),
		"a Nil with a kid":          nilOf(nilOf()),
		"a Nil with two":            nilOf(a(), b()),
		"a One with a kid":          {Kind: api.One, Set: set('a'), Kids: []api.Regex{a()}},
		"a One with a Nil":          {Kind: api.One, Kids: []api.Regex{nilOf()}},
		"a wrong kid":               catOf(a(), starOf()),
		"a wrong kid of an Alt":     altOf(nilOf(), nilOf(a())),
		"a wrong kid of a Star":     starOf(api.Regex{Kind: 5}),
		"a wrong one, deep":         starred(58, altOf(nilOf(), api.Regex{Kind: 200})),
		"401 nodes":                 catOf(manyOf(400, nilOf())...),
		"401 nodes of an Alt":       altOf(manyOf(400, a())...),
		"401 nodes, kids in kids":   catOf(altOf(manyOf(199, a())...), altOf(manyOf(198, nilOf())...), nilOf()),
		"61 deep":                   starred(60, a()),
		"61 deep, of a Cat":         catOf(nilOf(), starred(59, nilOf())),
		"61 deep, without a kid":    starred(60, catOf()),
		"many nodes":                catOf(manyOf(1000000, nilOf())...),
		"a deep one":                starred(100000, nilOf()),
		"a wrong one behind many":   catOf(append(manyOf(1000, nilOf()), starOf())...),
		"a wrong one ahead of many": altOf(append([]api.Regex{starOf()}, manyOf(1000, nilOf())...)...),
	}
	for kind := 5; kind < 256; kind++ {
		l["kind "+strconv.Itoa(kind)] = api.Regex{Kind: byte(kind), Set: set('a')}
		l["with a kid, kind "+strconv.Itoa(kind)] = api.Regex{Kind: byte(kind), Kids: []api.Regex{a()}}
	}
	twice := nilOf()
	for range 59 {
		twice = catOf(twice, twice)
	}
	l["lists that are shared, of 2^60 nodes"] = twice
	loop := catOf(nilOf(), nilOf())
	loop.Kids[1] = loop
	l["a list that is its own kid"] = loop
	star := starOf(nilOf())
	star.Kids[0] = star
	l["a Star that is its own kid"] = star
	wide := altOf(nilOf(), nilOf())
	wide.Kids[0], wide.Kids[1] = wide, wide
	l["an Alt that is both its kids"] = wide
	return l
}

func TestP62Wrong(t *testing.T) {
	for name, x := range wrong() {
		if Right(x) || Empty(x) || Matches(x, "") || Matches(x, "a") || Matches(x, "aa") || Matches(x, "b") {
			t.Errorf("%s: Right %v, Empty %v, Matches %v, %v, %v", name, Right(x), Empty(x), Matches(x, ""), Matches(x, "a"), Matches(x, "b"))
		}
		if l := Sets(x); len(l) != 0 {
			t.Errorf("%s: Sets %v", name, l)
		}
	}
}

func TestP62Right(t *testing.T) {
	for name, x := range map[string]api.Regex{
		"the zero one":                     {},
		"a Nil with a Set":                 {Kind: api.Nil, Set: set('a')},
		"a Nil with an empty list":         {Kind: api.Nil, Kids: []api.Regex{}},
		"a One":                            a(),
		"a One with an empty list":         {Kind: api.One, Kids: []api.Regex{}},
		"a One of nothing":                 {Kind: api.One},
		"a Cat without kids":               catOf(),
		"a Cat with one":                   catOf(a()),
		"a Cat with a Set":                 {Kind: api.Cat, Set: set('a'), Kids: []api.Regex{b()}},
		"an Alt without kids":              altOf(),
		"an Alt with one":                  altOf(a()),
		"a Star":                           starOf(a()),
		"a Star with a Set":                {Kind: api.Star, Set: set('b'), Kids: []api.Regex{a()}},
		"a Star of Nil":                    starOf(nilOf()),
		"400 nodes":                        catOf(manyOf(399, nilOf())...),
		"400 nodes of an Alt":              altOf(manyOf(399, a())...),
		"400 nodes, kids in kids":          catOf(altOf(manyOf(199, a())...), altOf(manyOf(198, nilOf())...)),
		"60 deep":                          starred(59, a()),
		"60 deep, of a Cat":                catOf(nilOf(), starred(58, nilOf()), nilOf()),
		"60 deep, without a kid":           starred(59, catOf()),
		"60 deep of 400 nodes":             starred(57, altOf(append(manyOf(340, a()), starOf(a()))...)),
		"60 deep twice":                    catOf(starred(58, a()), starred(58, b())),
		"a list with spare room of others": {Kind: api.Star, Kids: manyOf(9, a())[:1]},
	} {
		if !Right(x) {
			t.Errorf("%s may be", name)
		}
	}
}

func TestP62Empty(t *testing.T) {
	for _, c := range []struct {
		name string
		x    api.Regex
		want bool
	}{
		{"Nil", nilOf(), true},
		{"One", a(), false},
		{"One of nothing", api.Regex{Kind: api.One}, false},
		{"Cat without kids", catOf(), true},
		{"Cat of Nils", catOf(nilOf(), nilOf()), true},
		{"Cat, the first kid not", catOf(a(), nilOf()), false},
		{"Cat, the last kid not", catOf(nilOf(), a()), false},
		{"Cat of Stars", catOf(starOf(a()), starOf(b())), true},
		{"Cat of an Alt without kids", catOf(nilOf(), altOf()), false},
		{"Alt without kids", altOf(), false},
		{"Alt of Ones", altOf(a(), b()), false},
		{"Alt, the first kid", altOf(nilOf(), a()), true},
		{"Alt, the last kid", altOf(a(), nilOf()), true},
		{"Alt of a Cat without kids", altOf(a(), catOf()), true},
		{"Alt of an Alt without kids", altOf(altOf()), false},
		{"Star", starOf(a()), true},
		{"Star of an Alt without kids", starOf(altOf()), true},
		{"Star of a One of nothing", starOf(api.Regex{Kind: api.One}), true},
		{"60 deep", starred(59, a()), true},
		{"400 nodes", catOf(manyOf(399, nilOf())...), true},
		{"400 nodes, the last one not", catOf(append(manyOf(398, nilOf()), a())...), false},
	} {
		if Empty(c.x) != c.want || Matches(c.x, "") != c.want {
			t.Errorf("%s: Empty %v, Matches %v, want %v", c.name, Empty(c.x), Matches(c.x, ""), c.want)
		}
	}
}

func TestP62Matches(t *testing.T) {
	ab := altOf(a(), b())
	for _, c := range []struct {
		name    string
		x       api.Regex
		yes, no []string
	}{
		{"Nil", nilOf(), []string{""}, []string{"a", "\x00"}},
		{"Nil with a Set", api.Regex{Set: set('a')}, []string{""}, []string{"a"}},
		{"One", a(), []string{"a"}, []string{"", "b", "aa", "ab", "ba"}},
		{"One of edges", oneOf(0, 63, 64, 127, 128, 255), []string{"\x00", "?", "@", "\x7f", "\x80", "\xff"}, []string{"", "\x01", "\xfe", "\x81", "\x00\x00"}},
		{"One of nothing", api.Regex{Kind: api.One}, nil, []string{"", "a", "\x00"}},
		{"Cat without kids", catOf(), []string{""}, []string{"a"}},
		{"Cat of one", catOf(a()), []string{"a"}, []string{"", "b", "aa"}},
		{"Cat", catOf(a(), b()), []string{"ab"}, []string{"", "a", "b", "ba", "abb", "aab"}},
		{"Cat with nothing between", catOf(a(), nilOf(), catOf(), b()), []string{"ab"}, []string{"", "a", "b", "ba"}},
		{"Cat of Stars", catOf(starOf(a()), starOf(b()), starOf(a())), []string{"", "a", "b", "aba", "aabbaa", "ba", "bbb"}, []string{"bab", "abab"}},
		{"Cat of an Alt without kids", catOf(a(), altOf()), nil, []string{"", "a", "aa"}},
		{"Cat of Stars, One behind", catOf(starOf(ab), a(), ab), []string{"aa", "ab", "bab", "aaaa"}, []string{"", "a", "ba", "abba"}},
		{"Alt without kids", altOf(), nil, []string{"", "a"}},
		{"Alt", ab, []string{"a", "b"}, []string{"", "ab", "c"}},
		{"Alt of Cats", altOf(catOf(a(), b()), a(), nilOf()), []string{"", "a", "ab"}, []string{"b", "aba", "aab"}},
		{"Star", starOf(a()), []string{"", "a", "aaaa"}, []string{"b", "ab", "ba", "aba"}},
		{"Star of Nil", starOf(nilOf()), []string{""}, []string{"a"}},
		{"Star of what may be empty", starOf(altOf(nilOf(), a())), []string{"", "a", "aaa"}, []string{"b", "aab"}},
		{"Star of a Star", starOf(starOf(a())), []string{"", "a", "aaa"}, []string{"b"}},
		{"Star of Stars, one behind the other", starOf(catOf(starOf(a()), starOf(b()))), []string{"", "ab", "ba", "bbaaab"}, []string{"c", "abc"}},
		{"Star of a Cat without kids", starOf(catOf()), []string{""}, []string{"a"}},
		{"Star of an Alt without kids", starOf(altOf()), []string{""}, []string{"a"}},
		{"Star of a Cat", starOf(catOf(a(), b())), []string{"", "ab", "abab"}, []string{"a", "aba", "ba", "abb"}},
		{"Star with a Set", api.Regex{Kind: api.Star, Set: set('b'), Kids: []api.Regex{a()}}, []string{"", "aa"}, []string{"b"}},
		{"60 deep", starred(59, a()), []string{"", "a", "aaaaaaaa"}, []string{"b", "aaab"}},
		{"400 nodes", catOf(manyOf(399, a())...), []string{strings.Repeat("a", 399)}, []string{"", strings.Repeat("a", 398), strings.Repeat("a", 400)}},
	} {
		for _, s := range c.yes {
			if !Matches(c.x, s) {
				t.Errorf("%s doesn't match %q", c.name, s)
			}
		}
		for _, s := range c.no {
			if Matches(c.x, s) {
				t.Errorf("%s matches %q", c.name, s)
			}
		}
	}
}

// TestP62Plain: expressions of all shapes, and all short texts, against what the words say.
func TestP62Plain(t *testing.T) {
	texts := textsOf([]string{"a", "b", "\xff"}, 4)
	some := rand.New(rand.NewSource(62))
	for range 4000 {
		x := randomRegex(some, 1+some.Intn(5))
		if nodes, _ := plainNodes(x); nodes > 40 {
			continue
		}
		if !Right(x) {
			t.Fatalf("%s may be", show(x))
		}
		if Empty(x) != plainMatches(x, "") {
			t.Fatalf("Empty(%s): %v", show(x), Empty(x))
		}
		for _, s := range texts {
			if got := Matches(x, s); got != plainMatches(x, s) {
				t.Fatalf("Matches(%s, %q): %v", show(x), s, got)
			}
		}
	}
}

// TestP62Ends: expressions that may be matched in very many ways, and long texts, come to an end while the test still runs.
func TestP62Ends(t *testing.T) {
	long := strings.Repeat("a", 20000)
	nested := starred(29, altOf(a(), starOf(catOf(a(), starOf(a())))))
	many := catOf(manyOf(130, starOf(starOf(a())))...)
	opt := altOf(nilOf(), a())
	for range 28 {
		opt = starOf(catOf(opt, nilOf()))
	}
	for _, x := range []api.Regex{nested, many, opt, starred(59, a())} {
		if !Right(x) || !Matches(x, long) || Matches(x, long+"b") || Matches(x, "b"+long) {
			t.Errorf("%s", show(x))
		}
	}
}

func TestP63Sets(t *testing.T) {
	none := api.Set{}
	for _, c := range []struct {
		x    api.Regex
		want []api.Set
	}{
		{nilOf(), nil},
		{api.Regex{Set: set('a')}, nil},
		{a(), []api.Set{set('a')}},
		{api.Regex{Kind: api.One}, []api.Set{none}},
		{catOf(), nil},
		{altOf(), nil},
		{api.Regex{Kind: api.Cat, Set: set('x'), Kids: []api.Regex{a()}}, []api.Set{set('a')}},
		{api.Regex{Kind: api.Star, Set: set('x'), Kids: []api.Regex{a()}}, []api.Set{set('a')}},
		{starOf(nilOf()), nil},
		{catOf(b(), a(), b()), []api.Set{set('b'), set('a'), set('b')}},
		{altOf(b(), nilOf(), a()), []api.Set{set('b'), set('a')}},
		{catOf(altOf(oneOf('c'), catOf(oneOf('d'), a())), starOf(b()), oneOf('c')), []api.Set{set('c'), set('d'), set('a'), set('b'), set('c')}},
		{starred(59, a()), []api.Set{set('a')}},
	} {
		if l := Sets(c.x); !slices.Equal(l, c.want) {
			t.Errorf("Sets(%s): %x, want %x", show(c.x), l, c.want)
		}
	}
	if l := Sets(altOf(manyOf(399, a())...)); len(l) != 399 {
		t.Errorf("Sets of 399 Ones: %d", len(l))
	}
	some := rand.New(rand.NewSource(63))
	for range 3000 {
		if x := randomRegex(some, 1+some.Intn(5)); Right(x) && !slices.Equal(Sets(x), plainSets(x)) {
			t.Fatalf("Sets(%s): %x", show(x), Sets(x))
		}
	}
}

// TestP63OfTexts: the sets of what was read, in the order of the text.
func TestP63OfTexts(t *testing.T) {
	next := setFrom(128, 191)
	dot := []api.Set{anyBut().Kids[0].Set, setFrom(194, 223), next, setFrom(224, 239), next, next, setFrom(240, 244), next, next, next}
	for s, want := range map[string][]api.Set{
		"":         nil,
		"()|()*":   nil,
		"a[b-d]|é": {set('a'), set('b', 'c', 'd'), set(195), set(169)},
		"(ab)+":    {set('a'), set('b'), set('a'), set('b')},
		"a?b*":     {set('a'), set('b')},
		"aa":       {set('a'), set('a')},
		".":        dot,
		"a.":       append([]api.Set{set('a')}, dot...),
		`[\n]\n\t`: {set(10), set(10), set(9)},
		"€|😀":      {set(226), set(130), set(172), set(240), set(159), set(152), set(128)},
	} {
		x, e := Parse(s)
		if l := Sets(x); e != api.OK || !slices.Equal(l, want) {
			t.Errorf("Sets of %q: %x, want %x", s, l, want)
		}
	}
}

// TestP64AnySign: signs of all sizes against a dot and classes; that of 10 is none of theirs.
func TestP64AnySign(t *testing.T) {
	dot, _ := Parse(".")
	but, _ := Parse("[^a-c\\n]")
	twice, _ := Parse(".[^a]")
	for n := rune(0); n <= 0x10ffff; n++ {
		if n >= 0xd800 && n <= 0xdfff {
			continue
		}
		// Those about each bound of a number of bytes, and some of all others.
		if n > 0x900 && n < 0xfff00 && n%97 != 0 && n&0xfff > 2 && n&0xfff < 0xffd {
			continue
		}
		s := string(n)
		if Matches(dot, s) != (n != 10) || Matches(but, s) != (n != 10 && (n < 'a' || n > 'c')) {
			t.Fatalf("the sign %d: %v, %v", n, Matches(dot, s), Matches(but, s))
		}
		if Matches(twice, "b"+s) != (n != 10 && n != 'a') || Matches(twice, s+"é") != (n != 10) {
			t.Fatalf("the sign %d of two", n)
		}
		if Matches(dot, s+s) || Matches(but, s+"b") || Matches(dot, s[:len(s)-1]) || Matches(dot, s[1:]) {
			t.Fatalf("more, or less, than the sign %d", n)
		}
	}
}

// signed makes an expression's text, and what a library's reader of signs takes for the same.
type signed struct {
	*rand.Rand
}

// text is both, at most so deep.
func (r signed) text(deep int) (string, string) {
	if deep == 0 {
		pairs := [][2]string{{"a", "a"}, {"b", "b"}, {"é", "é"}, {"€", "€"}, {"😀", "😀"}, {".", "."}, {"\n", `\n`}, {`\n`, `\n`}, {`\-`, "-"}, {"^", `\^`}, {`\.`, `\.`},
			{"[ab]", "[ab]"}, {"[^a]", `[^a\n]`}, {`[^\-]`, `[^\-\n]`}, {"[a-c]", "[a-c]"}, {"[^a-z]", `[^a-z\n]`}, {`[\n\^]`, `[\n^]`}, {"()", "(?:)"}}
		p := pairs[r.Intn(len(pairs))]
		return p[0], p[1]
	}
	x, p := r.text(deep - 1)
	switch r.Intn(6) {
	case 0:
		y, q := r.text(deep - 1)
		return "(" + x + "|" + y + ")", "(?:" + p + "|" + q + ")"
	case 1:
		return "(" + x + ")*", "(?:" + p + ")*"
	case 2:
		return "(" + x + ")+", "(?:" + p + ")+"
	case 3:
		return "(" + x + ")?", "(?:" + p + ")?"
	}
	y, q := r.text(r.Intn(deep))
	return x + y, p + q
}

// TestP64Signs: what a text's expression matches, against a reader of signs that isn't the program's.
func TestP64Signs(t *testing.T) {
	texts := textsOf([]string{"a", "b", "é", "€", "😀", "\n", "-", "^"}, 3)
	some := signed{rand.New(rand.NewSource(64))}
	tried := 0
	for range 1500 {
		s, pattern := some.text(some.Intn(5))
		x, e := Parse(s)
		if e == api.ErrBig {
			continue
		}
		if e != api.OK {
			t.Fatalf("%q: %d", s, e)
		}
		tried++
		other := regexp.MustCompile("^(?:" + pattern + ")$")
		for _, text := range texts {
			if got := Matches(x, text); got != other.MatchString(text) {
				t.Fatalf("%q, %q: %v", s, text, got)
			}
		}
	}
	if tried < 1000 {
		t.Errorf("only %d were tried", tried)
	}
}

// TestP64Cases: ordinary expressions, sign by sign.
func TestP64Cases(t *testing.T) {
	for s, want := range map[string]struct{ yes, no []string }{
		"[a-zA-Z_][a-zA-Z0-9_]*":                {[]string{"a", "_", "x9", "Some_name2"}, []string{"", "9x", "a-b", "é"}},
		"[0-9]+(\\.[0-9]+)?":                    {[]string{"0", "42", "3.14"}, []string{"", ".5", "5.", "1.2.3", "x"}},
		"\"([^\"\\\\]|\\\\.)*\"":                {[]string{`""`, `"a"`, `"é\"€"`, `"\\"`}, []string{`"`, `"a`, `"\"`, "\"\n\"", `"a"b"`}},
		"//.*":                                  {[]string{"//", "// 😀"}, []string{"/", "//\n", "// a\nb"}},
		"é?€+":                                  {[]string{"€", "é€€"}, []string{"", "é", "éé€", "\xe2\x82", "\xe2\x82\xac\xac"}},
		"(é|€)*":                                {[]string{"", "é€é"}, []string{"\xc3", "a", "é\xe2"}},
		"[ \\t\\n\\r]+":                         {[]string{" ", "\n\t \r"}, []string{"", "a", "n"}},
		"\\(\\[\\|\\*\\+\\?\\.\\]\\)\\\\\\-\\^": {[]string{`([|*+?.])\-^`}, []string{"", `([|*+?.])\-`, `([|*+?x])\-^`}},
		"if|else|":                              {[]string{"if", "else", ""}, []string{"i", "ifelse", "lse"}},
		"\n":                                    {[]string{"\n"}, []string{"", "n", "\\n"}},
		"[^\n]":                                 {[]string{"a", "é"}, []string{"\n", ""}},
		"[\n]":                                  {[]string{"\n"}, []string{"a"}},
	} {
		x, e := Parse(s)
		if e != api.OK {
			t.Errorf("%q: %d", s, e)
		}
		for _, y := range want.yes {
			if !Matches(x, y) {
				t.Errorf("%q doesn't match %q", s, y)
			}
		}
		for _, n := range want.no {
			if Matches(x, n) {
				t.Errorf("%q matches %q", s, n)
			}
		}
	}
}

// withRoom is an expression whose lists have spare room with something in it; room gets all lists, with that.
func withRoom(x api.Regex, room *[][]api.Regex) api.Regex {
	l := make([]api.Regex, 0, len(x.Kids)+3)
	for _, k := range x.Kids {
		l = append(l, withRoom(k, room))
	}
	n := len(l)
	l = append(l, b(), starOf(a()), api.Regex{Kind: 77})
	*room = append(*room, l)
	x.Kids = l[:n]
	return x
}

// TestGivenStays: an expression that was given stays as it was, its spare room too.
func TestGivenStays(t *testing.T) {
	some := rand.New(rand.NewSource(6))
	for range 500 {
		var room [][]api.Regex
		x := withRoom(randomRegex(some, 1+some.Intn(5)), &room)
		var kept [][]api.Regex
		for _, l := range room {
			kept = append(kept, slices.Clone(l))
		}
		was := copied(x)
		first := Matches(x, "aab")
		Right(x)
		Empty(x)
		Matches(x, "")
		Matches(x, "ab\xffa")
		l := append(Sets(x), set('q'))
		clear(l)
		if !same(x, was) || Matches(x, "aab") != first || Empty(x) != Empty(was) || !slices.Equal(Sets(x), Sets(was)) {
			t.Fatalf("%s became %s", show(was), show(x))
		}
		for i, l := range room {
			if !slices.EqualFunc(l, kept[i], same) {
				t.Fatalf("the room of a list of %s became another", show(was))
			}
		}
	}
}

// TestAnswerIsNew: sets that were answered are the asker's alone.
func TestAnswerIsNew(t *testing.T) {
	x, _ := Parse("a[bc]")
	l, m := Sets(x), Sets(x)
	clear(l)
	_ = append(l[:1], set('z'), set('z'))
	want := []api.Set{set('a'), set('b', 'c')}
	if !slices.Equal(m, want) || !slices.Equal(Sets(x), want) {
		t.Errorf("another answer became %x, and %x", m, Sets(x))
	}
}
