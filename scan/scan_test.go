package scan

import (
	"math"
	"math/rand"
	"slices"
	"strconv"
	"strings"
	"testing"

	"pleacher/api"
	"pleacher/regex"
)

// lex is a piece.
func lex(rule, from, to, seen int) api.Lex {
	return api.Lex{Rule: rule, From: from, To: to, Seen: seen}
}

func TestExamples(t *testing.T) {
	d := build(t, "a*b", "a")
	for at, want := range []api.Lex{lex(1, 0, 1, 3), lex(1, 1, 2, 3), lex(-1, 2, 2, 3), lex(-1, 3, 3, 4)} {
		if x, e := Next(d, "aac", at); x != want || e != api.OK {
			t.Errorf("aac at %d: %v, %d, want %v", at, x, e, want)
		}
	}
	if l, at := All(d, "aac"); at != 2 || !slices.Equal(l, []api.Lex{lex(1, 0, 1, 3), lex(1, 1, 2, 3)}) {
		t.Errorf("aac: %v, %d", l, at)
	}
	if x, e := Next(d, "aa", 0); x != lex(1, 0, 1, 3) || e != api.OK {
		t.Errorf("aa: %v, %d", x, e)
	}
}

// TestP91Pieces: pieces of ordinary rules, and all edges, written out.
func TestP91Pieces(t *testing.T) {
	words := build(t, "if", "[a-z]+", "[0-9]+(\\.[0-9]+)?", " +", `"[^"]*"`)
	long := build(t, "a", "abc", "abcde")
	one := build(t, "a")
	star := build(t, "a*")
	signs := build(t, "é", "€+", ".")
	odd := handmade()
	for _, c := range []struct {
		name string
		d    api.Dfa
		s    string
		at   int
		want api.Lex
	}{
		{"a word, the first rule", words, "if x", 0, lex(0, 0, 2, 3)},
		{"a longer word, a later rule", words, "ifx", 0, lex(1, 0, 3, 4)},
		{"a shorter word, a later rule", words, "i", 0, lex(1, 0, 1, 2)},
		{"from a word's middle on", words, "if", 1, lex(1, 1, 2, 3)},
		{"blanks", words, "x   y", 1, lex(3, 1, 4, 5)},
		{"a number", words, "12.5", 0, lex(2, 0, 4, 5)},
		{"a number whose point is none, at the end", words, "12.", 0, lex(2, 0, 2, 4)},
		{"a number whose point is none, by a byte", words, "12.x", 0, lex(2, 0, 2, 4)},
		{"behind such a number", words, "12.x", 2, lex(-1, 2, 2, 3)},
		{"a quoted text, with all between", words, "\"a b\x00\x7fé\" ", 0, lex(4, 0, 9, 10)},
		{"a quoted text that breaks off at a byte", words, "\"ab\xff\" ", 0, lex(-1, 0, 0, 4)},
		{"a quoted text that doesn't end", words, `x"abc`, 1, lex(-1, 1, 1, 6)},
		{"nothing begins so", words, "x!y", 1, lex(-1, 1, 1, 2)},
		{"nothing begins so, at the last byte", words, "x!", 1, lex(-1, 1, 1, 2)},
		{"nothing begins so, at the first byte", words, "!", 0, lex(-1, 0, 0, 1)},

		{"the empty text", words, "", 0, lex(-1, 0, 0, 1)},
		{"the text's end", words, "ab", 2, lex(-1, 2, 2, 3)},
		{"the end of the text, in a state with a rule", one, "a", 0, lex(0, 0, 1, 2)},
		{"the end, in a state with a rule, behind others", one, "aaa", 2, lex(0, 2, 3, 4)},
		{"the end, in a state without", long, "ab", 0, lex(0, 0, 1, 3)},
		{"the end, in a state without, and no piece", build(t, "abc"), "ab", 0, lex(-1, 0, 0, 3)},
		{"the end, not come to", one, "aa", 0, lex(0, 0, 1, 2)},
		{"the last byte, behind which there is no state", one, "ab", 0, lex(0, 0, 1, 2)},

		{"the longest of three", long, "abcdef", 0, lex(2, 0, 5, 6)},
		{"the longest of three, at the end", long, "abcde", 0, lex(2, 0, 5, 6)},
		{"a longer beginning without a rule", long, "abcdx", 0, lex(1, 0, 3, 5)},
		{"a longer beginning without a rule, by one byte", long, "abx", 0, lex(0, 0, 1, 3)},
		{"a longer beginning without a rule, to the end", long, "abcd", 0, lex(1, 0, 3, 5)},
		{"from another place on", long, "abcabd", 3, lex(0, 3, 4, 6)},

		{"a start with a rule, at another byte", star, "b", 0, lex(-1, 0, 0, 1)},
		{"a start with a rule, at the end", star, "a", 1, lex(-1, 1, 1, 2)},
		{"a start with a rule, the empty text", star, "", 0, lex(-1, 0, 0, 1)},
		{"a start with a rule, come to again", star, "aab", 0, lex(0, 0, 2, 3)},
		{"a start with a rule, nothing else", build(t, ""), "a", 0, lex(-1, 0, 0, 1)},
		{"a start with another rule", build(t, "", "a"), "aa", 0, lex(1, 0, 1, 2)},
		{"a start with a rule, a longer beginning without", build(t, "(aa)*"), "a", 0, lex(-1, 0, 0, 2)},
		{"a start with a rule, a longer beginning without, and a byte", build(t, "(aa)*"), "ab", 0, lex(-1, 0, 0, 2)},
		{"nothing lives", api.Dfa{Next: [][]int{{-1}}, Rule: []int{-1}}, "a", 0, lex(-1, 0, 0, 1)},
		{"nothing lives, but there is a state", api.Dfa{Next: [][]int{{0}}, Rule: []int{-1}}, "abc", 1, lex(-1, 1, 1, 4)},

		{"a sign of two bytes", signs, "é", 0, lex(0, 0, 2, 3)},
		{"signs of three bytes", signs, "€€x", 0, lex(1, 0, 6, 7)},
		{"a sign that is cut", signs, "€\xe2\x82", 0, lex(1, 0, 3, 6)},
		{"a follower", signs, "é", 1, lex(-1, 1, 1, 2)},

		{"handmade: a state that doesn't live", odd, "\x7f\x7fa", 0, lex(-1, 0, 0, 4)},
		{"handmade: a state that doesn't live, and none", odd, "\x7f\x80\xffa", 0, lex(-1, 0, 0, 3)},
		{"handmade: the start come to again", odd, "a\x80\xff", 0, lex(31, 0, 2, 3)},
		{"handmade: two that could be one", odd, "a\xffa\x00\xff", 0, lex(5, 0, 5, 6)},
		{"handmade: no state by the first byte", odd, "\xff", 0, lex(-1, 0, 0, 1)},
		{"500 states", states(500), strings.Repeat("x", 600), 50, lex(7, 50, 549, 550)},
		{"500 states, the text one shorter", states(500), strings.Repeat("x", 498), 0, lex(-1, 0, 0, 499)},
		{"one state, which goes nowhere", states(1), "x", 0, lex(-1, 0, 0, 1)},
	} {
		if x, e := Next(c.d, c.s, c.at); x != c.want || e != api.OK {
			t.Errorf("%s: %v, %d, want %v", c.name, x, e, c.want)
		}
		if x := plainNext(c.d, c.s, c.at); x != c.want {
			t.Errorf("%s: the words say %v, not %v", c.name, x, c.want)
		}
	}
}

// TestP91Bytes: each byte is read by its class, those beyond 127 too.
func TestP91Bytes(t *testing.T) {
	var d api.Dfa
	for c := range 256 {
		d.Class[c] = byte(255 - c)
	}
	d.Next = [][]int{make([]int, 256), slices.Repeat([]int{-1}, 256), slices.Repeat([]int{-1}, 256)}
	d.Rule = []int{-1, 4, 9}
	for k := range 256 {
		d.Next[0][k] = k % 3
	}
	for c := range 256 {
		s := "x" + string([]byte{byte(c)})
		want := [3]api.Lex{lex(-1, 1, 1, 3), lex(4, 1, 2, 3), lex(9, 1, 2, 3)}[(255-c)%3]
		if x, e := Next(d, s, 1); x != want || e != api.OK {
			t.Errorf("byte %d: %v, %d, want %v", c, x, e, want)
		}
	}
	d = build(t, "[a-\u007f]", "\\\\|[^a-\u007f]")
	for c, want := range map[byte]api.Lex{0: lex(1, 0, 1, 2), 'a': lex(0, 0, 1, 2), 127: lex(0, 0, 1, 2), 128: lex(-1, 0, 0, 1), 255: lex(-1, 0, 0, 1)} {
		if x, _ := Next(d, string([]byte{c}), 0); x != want {
			t.Errorf("byte %d: %v, want %v", c, x, want)
		}
	}
}

// TestP91Plain: all places of all short texts, by tables of all shapes.
func TestP91Plain(t *testing.T) {
	texts := textsOf(edges(), 4)
	shorter, none := 0, 0
	for i, d := range tables(t, 91, 60) {
		if len(d.Next) > 400 {
			continue
		}
		for _, s := range texts {
			for at := range len(s) + 1 {
				x, e := Next(d, s, at)
				if want := plainNext(d, s, at); x != want || e != api.OK {
					t.Fatalf("table %d: %q at %d: %v, %d, want %v: %v, %v", i, s, at, x, e, want, d.Next, d.Rule)
				}
				if x.Rule >= 0 && x.Seen > x.To+1 {
					shorter++
				}
				if x.Rule < 0 && x.Seen > at+1 {
					none++
				}
			}
		}
	}
	if shorter < 1000 || none < 1000 {
		t.Errorf("only %d were looked at beyond the piece, %d without one", shorter, none)
	}
}

// TestP91Rules: the piece is the longest beginning that an expression matches, and the first one that does has it.
func TestP91Rules(t *testing.T) {
	for _, rules := range [][]string{{"a*b", "a"}, {"ab", "[ab]", "c+|abc"}, {"(ab)*", "b?", "cc"}, {"", "abca"}, {"a", "a", "aa"}, {".b|c", "[^a]a*"}} {
		l, d := rulesOf(t, rules...), build(t, rules...)
		for _, s := range textsOf([]byte("abc"), 5) {
			want := -1
			to := len(s)
			for ; to > 0 && want < 0; to-- {
				want = slices.IndexFunc(l, func(x api.Regex) bool { return regex.Matches(x, s[:to]) })
			}
			if want >= 0 {
				to++
			}
			if x, e := Next(d, s, 0); e != api.OK || x.Rule != want || x.From != 0 || x.To != to {
				t.Fatalf("%q: %q: %v, %d, want rule %d to %d", rules, s, x, e, want, to)
			}
		}
	}
}

// TestP91Errors: places that a text hasn't; tables that may not be, which is told first.
func TestP91Errors(t *testing.T) {
	refuses := func(name string, want api.Errno, d api.Dfa, s string, at int) {
		t.Helper()
		if x, e := Next(d, s, at); x != (api.Lex{}) || e != want {
			t.Errorf("%s: %.20q at %d: %v, %d, want %d", name, s, at, x, e, want)
		}
	}
	texts := []string{"", "a", "aac", "\x00\xff", "é", strings.Repeat("a", 4000)}
	for i, d := range tables(t, 911, 10) {
		for _, s := range texts {
			for _, at := range far(len(s)) {
				if at < 0 || at > len(s) {
					refuses("table "+strconv.Itoa(i), api.ErrSpan, d, s, at)
				}
			}
			for _, at := range []int{0, len(s)} {
				if x, e := Next(d, s, at); e != api.OK || x.From != at {
					t.Errorf("table %d: %.20q at %d: %v, %d", i, s, at, x, e)
				}
			}
		}
	}
	for name, d := range wrong() {
		for _, s := range texts {
			for _, at := range append(far(len(s)), 0, 1, len(s)) {
				refuses(name, api.ErrArg, d, s, at)
			}
		}
	}
}

// TestP92Texts: what texts are cut into, where that ends, and whether it is their end.
func TestP92Texts(t *testing.T) {
	words := build(t, "if", "[a-z]+", "[0-9]+(\\.[0-9]+)?", " +")
	for _, c := range []struct {
		d     api.Dfa
		s     string
		parts []string
		rules []int
		seen  []int
	}{
		{words, "", nil, nil, nil},
		{words, "if", []string{"if"}, []int{0}, []int{3}},
		{words, "if abc 1.5", []string{"if", " ", "abc", " ", "1.5"}, []int{0, 3, 1, 3, 2}, []int{3, 4, 7, 8, 11}},
		{words, "if abc 1.5!x", []string{"if", " ", "abc", " ", "1.5"}, []int{0, 3, 1, 3, 2}, []int{3, 4, 7, 8, 11}},
		{words, "1if2", []string{"1", "if", "2"}, []int{2, 0, 2}, []int{2, 4, 5}},
		{words, "!if", nil, nil, nil},
		{words, "!", nil, nil, nil},
		{words, "if!", []string{"if"}, []int{0}, []int{3}},
		{words, "1.", []string{"1"}, []int{2}, []int{3}},
		{words, "1..2", []string{"1"}, []int{2}, []int{3}},
		{words, "1.2.3", []string{"1.2"}, []int{2}, []int{4}},
		{build(t, "a*b", "a"), "aaaba", []string{"aaab", "a"}, []int{0, 1}, []int{5, 6}},
		{build(t, "a*b", "a"), "aaa", []string{"a", "a", "a"}, []int{1, 1, 1}, []int{4, 4, 4}},
		{build(t, "a*"), "aaa", []string{"aaa"}, []int{0}, []int{4}},
		{build(t, "a*"), "baa", nil, nil, nil},
		{build(t, "a*"), "aab", []string{"aa"}, []int{0}, []int{3}},
		{build(t, ""), "a", nil, nil, nil},
		{build(t, "abc", "ab", "cd"), "abcd", []string{"abc"}, []int{0}, []int{4}},
		{build(t, "."), "a\x00\x7fé", []string{"a", "\x00", "\x7f", "é"}, []int{0, 0, 0, 0}, []int{2, 3, 4, 6}},
		{build(t, "."), "a\x80", []string{"a"}, []int{0}, []int{2}},
		{build(t, "."), "a\xff", []string{"a"}, []int{0}, []int{2}},
		{handmade(), "a\x80a\x80\xff", []string{"a\x80a\x80"}, []int{31}, []int{5}},
		{handmade(), "a\xff\x7f\x80\xff", []string{"a\xff\x7f\x80\xff"}, []int{5}, []int{6}},
		{handmade(), "\x7f", nil, nil, nil},
	} {
		l, at := All(c.d, c.s)
		var rules, seen []int
		for _, x := range l {
			rules, seen = append(rules, x.Rule), append(seen, x.Seen)
		}
		if !slices.Equal(cut(c.s, l), c.parts) || !slices.Equal(rules, c.rules) || !slices.Equal(seen, c.seen) || at != len(joined(c.parts)) {
			t.Errorf("%q: %q, %v, %v, %d, want %q, %v, %v", c.s, cut(c.s, l), rules, seen, at, c.parts, c.rules, c.seen)
		}
		if want := joined(c.parts) == c.s; Whole(c.d, c.s) != want {
			t.Errorf("%q: Whole: %v", c.s, !want)
		}
	}
}

// TestP92Stops: texts that stop at each of their places.
func TestP92Stops(t *testing.T) {
	d := build(t, "ab", "[a-z]", "0+")
	parts := []string{"ab", "000", "c", "ab", "a", "0"}
	s := joined(parts)
	edge := 0
	for i, p := range parts {
		for _, stop := range []string{"!", "\x00", "\xff", "!!!", "é"} {
			l, at := All(d, s[:edge]+stop+s[edge:])
			if at != edge || len(l) != i || Whole(d, s[:edge]+stop+s[edge:]) {
				t.Errorf("stop %q at %d: %v, %d", stop, edge, l, at)
			}
		}
		edge += len(p)
	}
	if l, at := All(d, s); at != edge || !slices.Equal(cut(s, l), parts) || !Whole(d, s) {
		t.Errorf("%q: %v, %d", s, l, at)
	}
	if l, at := All(d, s+"!"); at != edge || !slices.Equal(cut(s, l), parts) || Whole(d, s+"!") {
		t.Errorf("%q: %v, %d", s+"!", l, at)
	}
}

// TestP92Wrong: of a table that may not be nothing is told, and no text is whole.
func TestP92Wrong(t *testing.T) {
	for name, d := range wrong() {
		for _, s := range []string{"", "a", "\x00", "\xff", strings.Repeat("a", 1000)} {
			if l, at := All(d, s); len(l) != 0 || at != 0 {
				t.Errorf("%s: %.10q: %v, %d", name, s, l, at)
			}
			if Whole(d, s) {
				t.Errorf("%s: %.10q is whole", name, s)
			}
		}
	}
}

// TestP92Plain: all short texts by tables of all shapes.
func TestP92Plain(t *testing.T) {
	texts := textsOf(edges(), 4)
	whole, stops := 0, 0
	for i, d := range tables(t, 92, 100) {
		if len(d.Next) > 400 {
			continue
		}
		for _, s := range texts {
			want, to := plainAll(d, s)
			if l, at := All(d, s); at != to || !slices.Equal(l, want) {
				t.Fatalf("table %d: %q: %v, %d, want %v, %d: %v, %v", i, s, l, at, want, to, d.Next, d.Rule)
			}
			if Whole(d, s) != (to == len(s)) {
				t.Fatalf("table %d: %q: Whole is %v, but it ends at %d", i, s, to != len(s), to)
			}
			if len(want) > 1 && to == len(s) {
				whole++
			}
			if len(want) > 0 && to < len(s) {
				stops++
			}
		}
	}
	if whole < 500 || stops < 500 {
		t.Errorf("only %d texts were whole, %d not", whole, stops)
	}
}

// TestP92Long: texts as long as may be, and longer ones.
func TestP92Long(t *testing.T) {
	d := build(t, "a*b", "a")
	s := strings.Repeat("a", api.MaxText)
	l, at := All(d, s)
	if at != len(s) || len(l) != len(s) || l[0] != lex(1, 0, 1, len(s)+1) || l[len(s)-1] != lex(1, len(s)-1, len(s), len(s)+1) {
		t.Errorf("%d pieces to %d", len(l), at)
	}
	if l, at := All(d, s+"b"); at != len(s)+1 || !slices.Equal(l, []api.Lex{lex(0, 0, len(s)+1, len(s)+2)}) {
		t.Errorf("%d pieces to %d", len(l), at)
	}
	s = strings.Repeat("if x ", 100000)
	l, at = All(build(t, "if", "[a-z]+", " "), s)
	if at != len(s) || len(l) != 400000 || l[399998] != lex(1, len(s)-2, len(s)-1, len(s)) {
		t.Errorf("%d pieces to %d", len(l), at)
	}
}

// TestP93Same: texts that turn at, ahead of and behind Seen.
func TestP93Same(t *testing.T) {
	for _, c := range []struct {
		s, t string
		seen int
		want bool
	}{
		{"", "", 0, true}, {"", "", 1, true}, {"", "", -1, true}, {"", "a", 0, true}, {"", "a", 1, false}, {"", "a", -1, true},
		{"a", "", 0, true}, {"a", "", 1, false}, {"a", "", 2, false}, {"a", "", math.MinInt, true}, {"a", "", math.MaxInt, false},
		{"abc", "abc", 0, true}, {"abc", "abc", 2, true}, {"abc", "abc", 3, true}, {"abc", "abc", 4, true}, {"abc", "abc", 5, true}, {"abc", "abc", math.MaxInt, true}, {"abc", "abc", math.MinInt, true},
		{"abc", "abx", 1, true}, {"abc", "abx", 2, true}, {"abc", "abx", 3, false}, {"abc", "abx", 4, false},
		{"abc", "xbc", 0, true}, {"abc", "xbc", -1, true}, {"abc", "xbc", 1, false}, {"abc", "xbc", 3, false}, {"abc", "xbc", 4, false},
		{"abc", "axc", 1, true}, {"abc", "axc", 2, false}, {"abc", "axc", 3, false},
		{"abc", "ab", 1, true}, {"abc", "ab", 2, true}, {"abc", "ab", 3, false}, {"abc", "ab", 4, false},
		{"abc", "abcd", 2, true}, {"abc", "abcd", 3, true}, {"abc", "abcd", 4, false}, {"abc", "abcd", 5, false}, {"abc", "abcd", math.MaxInt, false},
		{"abc", "xyz", 0, true}, {"abc", "xyz", -7, true}, {"abc", "xyz", 1, false},
		{"a\x00\xff", "a\x00\x7f", 2, true}, {"a\x00\xff", "a\x00\x7f", 3, false}, {"é", "\xc3\x80", 1, true}, {"é", "\xc3\x80", 2, false},
	} {
		for _, x := range []api.Lex{{Seen: c.seen}, lex(3, 1, 2, c.seen), lex(-1, 9, 9, c.seen), lex(math.MinInt, math.MaxInt, math.MinInt, c.seen)} {
			if got := Same(c.s, c.t, x); got != c.want {
				t.Errorf("%q, %q, %v: %v", c.s, c.t, x, got)
			}
		}
	}
}

// TestP93Plain: all short texts beside one another, at all places, and such as there aren't.
func TestP93Plain(t *testing.T) {
	texts := append(textsOf([]byte{0, 128, 255}, 3), textsOf([]byte("ab"), 4)...)
	seens := append(far(4), 0, 1, 2, 3, 4, 5)
	for _, s := range texts {
		for _, u := range texts {
			for _, seen := range seens {
				if got := Same(s, u, api.Lex{Seen: seen}); got != plainSame(s, u, seen) {
					t.Fatalf("%q, %q, %d: %v", s, u, seen, got)
				}
			}
		}
	}
}

// TestP94Same: where Same holds of a piece that Next tells of a text, Next tells it of the other, at that place.
func TestP94Same(t *testing.T) {
	texts := append(textsOf([]byte{0, 128, 255}, 3), textsOf([]byte("a\x7f"), 4)...)
	held, not := 0, 0
	for i, d := range tables(t, 94, 40) {
		if len(d.Next) > 400 {
			continue
		}
		for _, s := range texts {
			for at := range len(s) + 1 {
				x, _ := Next(d, s, at)
				for _, u := range texts {
					if !Same(s, u, x) {
						not++
						continue
					}
					if y, e := Next(d, u, at); y != x || e != api.OK {
						t.Fatalf("table %d: %v of %q at %d, but %v, %d of %q: %v, %v", i, x, s, at, y, e, u, d.Next, d.Rule)
					}
					if s != u {
						held++
					}
				}
			}
		}
	}
	if held < 10000 || not < 10000 {
		t.Errorf("it held of only %d that aren't the same, and didn't of only %d", held, not)
	}
}

// TestP94Order: pieces stand one behind the other, none is empty, each is the one that Next tells, and where they end there is none.
func TestP94Order(t *testing.T) {
	some := rand.New(rand.NewSource(944))
	for i, d := range tables(t, 944, 300) {
		for range 20 {
			b := make([]byte, some.Intn(40))
			for j := range b {
				b[j] = edges()[some.Intn(5)]
			}
			s := string(b)
			l, to := All(d, s)
			at := 0
			for _, x := range l {
				if y, _ := Next(d, s, at); x.From != at || x.To <= x.From || x.Rule < 0 || x.Seen < x.To || x != y {
					t.Fatalf("table %d: %q at %d: %v, %v", i, s, at, x, y)
				}
				at = x.To
			}
			if x, _ := Next(d, s, to); at != to || x.Rule != -1 || x.From != to || x.To != to || joined(cut(s, l)) != s[:to] {
				t.Fatalf("table %d: %q: %v, %d, %v", i, s, l, to, x)
			}
		}
	}
}

// TestTableStays: tables that were given are as they were, their spare room too.
func TestTableStays(t *testing.T) {
	all := tables(t, 95, 30)
	for _, d := range wrong() {
		all = append(all, d)
	}
	for i, d := range all {
		given, seen := roomy(d), roomy(d)
		for _, s := range []string{"", "a", "aab", "\x00\x7f\x80\xff", strings.Repeat("a", 600)} {
			Next(given, s, 0)
			Next(given, s, len(s)+1)
			All(given, s)
			Whole(given, s)
		}
		if !sameRoom(given, seen) {
			t.Errorf("table %d turned: %v, %v", i, given.Next, given.Rule)
		}
	}
}

// TestAnswersAreNew: what is done to an answer is seen in no other, and in no table; what is done to a table is seen in no answer.
func TestAnswersAreNew(t *testing.T) {
	for i, d := range tables(t, 96, 30) {
		given := roomy(d)
		s := strings.Repeat("aab\x00\x7f\x80", 50)
		l, at := All(given, s)
		other, _ := All(given, s)
		want := slices.Clone(other)
		l = l[:cap(l)]
		for j := range l {
			l[j] = lex(99, 98, 97, 96)
		}
		if !slices.Equal(other, want) || !sameRoom(given, roomy(d)) {
			t.Errorf("table %d: an answer shares memory", i)
		}
		if again, to := All(given, s); to != at || !slices.Equal(again, want) {
			t.Errorf("table %d: what was done to an answer stays", i)
		}
		for _, row := range append(given.Next, given.Rule) {
			clear(row[:cap(row)])
		}
		if !slices.Equal(other, want) {
			t.Errorf("table %d: an answer shares memory with it", i)
		}
	}
}
