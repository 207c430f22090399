package place

import (
	"math"
	"slices"
	"strings"
	"testing"

	"pleacher/api"
	"pleacher/rope"
	"pleacher/runes"
)

// wholeTexts are texts of signs: none, one line and several ones, with and without a line feed at the end, lines without a byte.
var wholeTexts = []string{
	"", "a", "abc", "é", "\n", "\n\n", "\n\n\n", "a\n", "\na", "a\nb", "ab\n\ncd", "ab\n\n\ncd\n", "a\néb", "a\néb\n", "é\n€\n😀", "é€😀\n\n😀€é\n", "a\r\nb\r\n", "\r", "\x00\n\x7f\u0080", "e\u0301\ne",
	"short\na much longer line\n\nend",
}

// brokenTexts are texts that aren't whole: followers where lines begin and end, lines of followers alone, signs that a line feed cuts.
var brokenTexts = []string{
	"\x80", "\xbf\xbf", "\x80a", "a\x80", "\x80\n", "\n\x80", "a\n\x80b", "a\n\x80\x80b\n", "\n\x80\n", "\n\x80\xbf\n\x80", "\xc3\n\xa9", "ab\xe2\x82\n\xacc", "\xc3\xc3\n\xff\x80", "a\x80\x80\n\x80b\x80\n\x80", "\x7f\n\x80\n\xbf\n\xc0\n",
}

// longTexts are texts of many pieces: many short lines, lines that are longer than a piece, line feeds alone, one line.
var longTexts = []string{
	strings.Repeat("ab\né€\n\n😀 x", 30),
	strings.Repeat(strings.Repeat("é", 70)+"\n", 4),
	strings.Repeat("\x80b\xc3\n\xa9", 60),
	strings.Repeat("\n", 300),
	strings.Repeat("a€", 100),
	strings.Repeat("\x80", 200) + "\n" + strings.Repeat("\xbf", 200),
}

// shortTexts calls f for each text of at most n bytes out of some of each kind.
func shortTexts(n int, f func(string)) {
	some := []byte{'a', 10, 128, 191, 192}
	var grow func(s []byte)
	grow = func(s []byte) {
		f(string(s))
		if len(s) == n {
			return
		}
		for _, c := range some {
			grow(append(s[:len(s):len(s)], c))
		}
	}
	grow(nil)
}

// allTexts calls f for each text that is tried, with a rope of it.
func allTexts(t *testing.T, f func(s string, r rope.Rope)) {
	t.Helper()
	for _, l := range [][]string{wholeTexts, brokenTexts, longTexts} {
		for _, s := range l {
			f(s, ropeOf(t, s))
			f(s, smallPieces(t, s))
		}
	}
	shortTexts(5, func(s string) { f(s, ropeOf(t, s)) })
}

// ropeOf is the rope of a text that is short enough.
func ropeOf(t *testing.T, s string) rope.Rope {
	t.Helper()
	r, e := rope.Of(s)
	if e != api.OK {
		t.Fatalf("Of of %d bytes: error %d", len(s), e)
	}
	return r
}

// smallPieces is a rope of the text, made in another way than ropeOf's: byte by byte, from the end on.
func smallPieces(t *testing.T, s string) rope.Rope {
	t.Helper()
	var r rope.Rope
	for i := range len(s) {
		var e api.Errno
		if r, e = r.Put(0, s[len(s)-1-i:len(s)-i]); e != api.OK {
			t.Fatalf("Put: error %d", e)
		}
	}
	return r
}

// plainSigns is how many bytes of a text are no followers.
func plainSigns(s string) int {
	n := 0
	for _, c := range []byte(s) {
		if c < 128 || c > 191 {
			n++
		}
	}
	return n
}

// plainEdge tells an edge, as layer 1 words it.
func plainEdge(s string, at int) bool {
	return at == len(s) || at >= 0 && at < len(s) && plainSigns(s[at:at+1]) == 1
}

// plainMark is a place's mark, as the document words it.
func plainMark(s string, at int) api.Mark {
	begin := 1 + strings.LastIndex(s[:at], "\n")
	return api.Mark{Line: strings.Count(s[:at], "\n"), Col: plainSigns(s[begin:at])}
}

// plainSpan is where a line begins and ends; false, if there is none.
func plainSpan(s string, line int) (int, int, bool) {
	from := 0
	for i, l := range strings.Split(s, "\n") {
		if i == line {
			return from, from + len(l), true
		}
		from += len(l) + 1
	}
	return 0, 0, false
}

// plainAt are the edges whose mark that is.
func plainAt(s string, m api.Mark) []int {
	var l []int
	for at := range len(s) + 1 {
		if plainEdge(s, at) && plainMark(s, at) == m {
			l = append(l, at)
		}
	}
	return l
}

// plainNear is the place near a mark, as the document words it.
func plainNear(s string, m api.Mark) int {
	from, to, ok := plainSpan(s, m.Line)
	switch {
	case m.Line < 0:
		return 0
	case !ok:
		return len(s)
	case m.Col < 0:
		return from
	case m.Col > plainSigns(s[from:to]):
		return to
	}
	return plainAt(s, m)[0]
}

// places are those of a text; of a long one each seventh, and those beside both ends.
func places(s string) []int {
	var l []int
	for at := range len(s) + 1 {
		if len(s) < 64 || at < 3 || at > len(s)-3 || at%7 == 0 {
			l = append(l, at)
		}
	}
	return l
}

// beyond are places that a text of n bytes hasn't.
func beyond(n int) []int {
	return []int{math.MinInt, math.MinInt + 1, -5000, -2, -1, n + 1, n + 2, n + 5000, math.MaxInt - 1, math.MaxInt}
}

// lines are numbers of lines that a text has; of many ones some.
func lines(s string) []int {
	var l []int
	n := strings.Count(s, "\n")
	for i := range n + 1 {
		if n < 12 || i < 3 || i > n-3 || i%17 == 0 {
			l = append(l, i)
		}
	}
	return l
}

// noLines are numbers of lines that a text hasn't.
func noLines(s string) []int {
	n := 1 + strings.Count(s, "\n")
	return []int{math.MinInt, math.MinInt + 1, -5000, -n, -1, n, n + 1, 5000, math.MaxInt - 1, math.MaxInt}
}

// columns are those of a line so wide, one more, and some that no line has.
func columns(width int) []int {
	l := []int{math.MinInt, -5000, -1, width + 1, width + 2, 5000, math.MaxInt}
	for col := range width + 1 {
		if width < 32 || col < 3 || col > width-3 || col%11 == 0 {
			l = append(l, col)
		}
	}
	return l
}

// marks calls f for marks that the text has, and for ones that it hasn't.
func marks(s string, f func(m api.Mark)) {
	for _, line := range lines(s) {
		from, to, _ := plainSpan(s, line)
		for _, col := range columns(plainSigns(s[from:to])) {
			f(api.Mark{Line: line, Col: col})
		}
	}
	for _, line := range noLines(s) {
		for _, col := range columns(1) {
			f(api.Mark{Line: line, Col: col})
		}
	}
}

func TestP31Mark(t *testing.T) {
	allTexts(t, func(s string, r rope.Rope) {
		for _, at := range places(s) {
			if m, e := Mark(r, at); m != plainMark(s, at) || e != api.OK {
				t.Fatalf("Mark(%.60q, %d): %v, error %d, want %v", s, at, m, e, plainMark(s, at))
			}
		}
		for _, at := range beyond(len(s)) {
			if m, e := Mark(r, at); m != (api.Mark{}) || e != api.ErrSpan {
				t.Fatalf("Mark(%.60q, %d): %v, error %d", s, at, m, e)
			}
		}
	})
}

func TestP31Lines(t *testing.T) {
	allTexts(t, func(s string, r rope.Rope) {
		if want := 1 + strings.Count(s, "\n"); Lines(r) != want {
			t.Fatalf("Lines(%.60q): %d, want %d", s, Lines(r), want)
		}
	})
	if Lines(rope.Rope{}) != 1 {
		t.Errorf("Lines of the empty rope: %d", Lines(rope.Rope{}))
	}
}

func TestP31Width(t *testing.T) {
	allTexts(t, func(s string, r rope.Rope) {
		for _, line := range lines(s) {
			from, to, _ := plainSpan(s, line)
			if w, e := Width(r, line); w != plainSigns(s[from:to]) || e != api.OK {
				t.Fatalf("Width(%.60q, %d): %d, error %d", s, line, w, e)
			}
		}
		for _, line := range noLines(s) {
			if w, e := Width(r, line); w != 0 || e != api.ErrSpan {
				t.Fatalf("Width(%.60q, %d): %d, error %d", s, line, w, e)
			}
		}
	})
}

func TestP31Edge(t *testing.T) {
	allTexts(t, func(s string, r rope.Rope) {
		for _, at := range append(places(s), beyond(len(s))...) {
			if got := Edge(r, at); got != plainEdge(s, at) {
				t.Fatalf("Edge(%.60q, %d): %v", s, at, got)
			}
		}
	})
	var each []byte
	for c := range 256 {
		each = append(each, byte(c))
	}
	r := ropeOf(t, string(each))
	for c := range 257 {
		if got, want := Edge(r, c), c < 128 || c > 191; got != want {
			t.Errorf("Edge at the byte %d: %v", c, got)
		}
	}
}

func TestP32At(t *testing.T) {
	allTexts(t, func(s string, r rope.Rope) {
		marks(s, func(m api.Mark) {
			at, e := At(r, m)
			from, to, ok := plainSpan(s, m.Line)
			if !ok || m.Col < 0 || m.Col > plainSigns(s[from:to]) {
				if at != 0 || e != api.ErrSpan {
					t.Fatalf("At(%.60q, %v): %d, error %d", s, m, at, e)
				}
				return
			}
			if want := plainAt(s, m); len(want) != 1 || at != want[0] || e != api.OK {
				t.Fatalf("At(%.60q, %v): %d, error %d, want %d", s, m, at, e, want)
			}
		})
	})
}

// TestP32AtFollowers: where a line begins with followers, its first edge is behind them.
func TestP32AtFollowers(t *testing.T) {
	for _, c := range []struct {
		text      string
		line, col int
		want      int
	}{
		{"\x80a", 0, 0, 1}, {"\x80", 0, 0, 1}, {"a\n\x80b", 1, 0, 3}, {"a\n\x80b", 1, 1, 4}, {"\n\x80\xbf\n", 1, 0, 3}, {"\xc3\n\xa9", 0, 1, 1}, {"\xc3\n\xa9", 1, 0, 3}, {"a\x80\n", 0, 1, 2},
	} {
		m := api.Mark{Line: c.line, Col: c.col}
		if at, e := At(ropeOf(t, c.text), m); at != c.want || e != api.OK {
			t.Errorf("At(%q, %v): %d, error %d, want %d", c.text, m, at, e, c.want)
		}
	}
}

func TestP32Near(t *testing.T) {
	allTexts(t, func(s string, r rope.Rope) {
		marks(s, func(m api.Mark) {
			if at := Near(r, m); at != plainNear(s, m) {
				t.Fatalf("Near(%.60q, %v): %d, want %d", s, m, at, plainNear(s, m))
			}
		})
	})
}

// TestP32NearBeginning: a line's beginning is its first place, be that an edge or not.
func TestP32NearBeginning(t *testing.T) {
	r := ropeOf(t, "\x80a\n\xbfb")
	for m, want := range map[api.Mark]int{{Line: -1}: 0, {Line: -1, Col: 2}: 0, {Col: -1}: 0, {}: 1, {Line: 1, Col: -1}: 3, {Line: 1}: 4, {Line: 1, Col: 9}: 5, {Line: 2, Col: -1}: 5, {Col: 9}: 2} {
		if at := Near(r, m); at != want {
			t.Errorf("Near(%v): %d, want %d", m, at, want)
		}
	}
}

func TestP33Span(t *testing.T) {
	allTexts(t, func(s string, r rope.Rope) {
		for _, line := range lines(s) {
			wantFrom, wantTo, _ := plainSpan(s, line)
			if from, to, e := Span(r, line); from != wantFrom || to != wantTo || e != api.OK {
				t.Fatalf("Span(%.60q, %d): %d, %d, error %d, want %d, %d", s, line, from, to, e, wantFrom, wantTo)
			}
		}
		for _, line := range noLines(s) {
			if from, to, e := Span(r, line); from != 0 || to != 0 || e != api.ErrSpan {
				t.Fatalf("Span(%.60q, %d): %d, %d, error %d", s, line, from, to, e)
			}
		}
	})
}

func TestP34Up(t *testing.T) {
	allTexts(t, func(s string, r rope.Rope) {
		n := 1 + strings.Count(s, "\n")
		for _, at := range places(s) {
			m := plainMark(s, at)
			for _, up := range []int{0, 1, -1, 2, -2, n - 1, 1 - n, n, -n, 5000, -5000} {
				want := plainNear(s, api.Mark{Line: m.Line - up, Col: m.Col})
				if got, e := Up(r, at, up); got != want || e != api.OK {
					t.Fatalf("Up(%.60q, %d, %d): %d, error %d, want %d", s, at, up, got, e, want)
				}
			}
		}
	})
}

// TestP34UpFar: numbers of lines whose difference to a line is beyond all numbers lead to the text's ends, too.
func TestP34UpFar(t *testing.T) {
	allTexts(t, func(s string, r rope.Rope) {
		for _, at := range places(s) {
			for _, far := range []int{0, 1, 2, 3, 4000} {
				if got, e := Up(r, at, math.MaxInt-far); got != 0 || e != api.OK {
					t.Fatalf("Up(%.60q, %d, greatest - %d): %d, error %d", s, at, far, got, e)
				}
				if got, e := Up(r, at, math.MinInt+far); got != len(s) || e != api.OK {
					t.Fatalf("Up(%.60q, %d, least + %d): %d, error %d", s, at, far, got, e)
				}
			}
		}
	})
}

func TestP34UpOfNoPlace(t *testing.T) {
	allTexts(t, func(s string, r rope.Rope) {
		for _, at := range beyond(len(s)) {
			for _, up := range []int{math.MinInt, -1, 0, 1, math.MaxInt} {
				if got, e := Up(r, at, up); got != 0 || e != api.ErrSpan {
					t.Fatalf("Up(%.60q, %d, %d): %d, error %d", s, at, up, got, e)
				}
			}
		}
	})
}

// TestP34UpWithinASign: a place that is no edge has a column too, and by 0 lines it goes to the edge of that.
func TestP34UpWithinASign(t *testing.T) {
	r := ropeOf(t, "ab\n€c\nd")
	for _, c := range []struct{ at, up, want int }{{4, 0, 6}, {5, 0, 6}, {5, 1, 1}, {4, -1, 9}, {3, -1, 8}, {7, 1, 2}, {7, -1, 9}, {2, -1, 7}, {2, -2, 9}} {
		if got, e := Up(r, c.at, c.up); got != c.want || e != api.OK {
			t.Errorf("Up(%d, %d): %d, error %d, want %d", c.at, c.up, got, e, c.want)
		}
	}
}

func TestP35AtOfMark(t *testing.T) {
	whole := 0
	allTexts(t, func(s string, r rope.Rope) {
		if !runes.Whole(s) {
			return
		}
		whole++
		for _, at := range places(s) {
			if !runes.Edge(s, at) {
				continue
			}
			m, e := Mark(r, at)
			got, f := At(r, m)
			if got != at || e != api.OK || f != api.OK {
				t.Fatalf("At of Mark(%.60q, %d): %d, errors %d, %d", s, at, got, e, f)
			}
			if Near(r, m) != at {
				t.Fatalf("Near of Mark(%.60q, %d): %d", s, at, Near(r, m))
			}
		}
	})
	if whole < 50 {
		t.Errorf("%d whole texts", whole)
	}
}

func TestP35MarkOfAt(t *testing.T) {
	for _, s := range slices.Concat(wholeTexts, longTexts) {
		if !runes.Whole(s) {
			continue
		}
		r := ropeOf(t, s)
		n := 0
		for line := range Lines(r) {
			w, _ := Width(r, line)
			for col := range w + 1 {
				want := api.Mark{Line: line, Col: col}
				at, e := At(r, want)
				if m, f := Mark(r, at); m != want || e != api.OK || f != api.OK {
					t.Fatalf("Mark of At(%.60q, %v): %v, errors %d, %d", s, want, m, e, f)
				}
				n++
			}
		}
		if want := 1 + runes.Count(s); n != want {
			t.Errorf("%.60q: %d marks, want %d", s, n, want)
		}
	}
}

// TestFullText: a text of as many bytes as may be.
func TestFullText(t *testing.T) {
	r := ropeOf(t, strings.Repeat("\n", api.MaxText))
	if Lines(r) != api.MaxText+1 {
		t.Errorf("Lines: %d", Lines(r))
	}
	if m, e := Mark(r, api.MaxText); m != (api.Mark{Line: api.MaxText}) || e != api.OK {
		t.Errorf("Mark: %v, error %d", m, e)
	}
	if at, e := Up(r, api.MaxText, api.MaxText-1); at != 1 || e != api.OK {
		t.Errorf("Up: %d, error %d", at, e)
	}
	r = ropeOf(t, strings.Repeat("é", api.MaxText/2))
	if w, e := Width(r, 0); w != api.MaxText/2 || e != api.OK {
		t.Errorf("Width: %d, error %d", w, e)
	}
	if at, e := At(r, api.Mark{Col: 1999}); at != 3998 || e != api.OK {
		t.Errorf("At: %d, error %d", at, e)
	}
}

// TestRopeStays: a rope that was asked stays as it was, and answers the same again.
func TestRopeStays(t *testing.T) {
	for _, s := range slices.Concat(wholeTexts, brokenTexts, longTexts) {
		r := ropeOf(t, s)
		was, height := r, r.Height()
		first, again := askAll(s, r), askAll(s, r)
		if r != was || r.Text() != s || r.Height() != height {
			t.Fatalf("%.60q became %.60q, height %d", s, r.Text(), r.Height())
		}
		if !slices.Equal(first, again) || !slices.Equal(first, askAll(s, smallPieces(t, s))) {
			t.Fatalf("%.60q answers otherwise", s)
		}
	}
}

// askAll calls all of the package's functions, and gathers what they answer.
func askAll(s string, r rope.Rope) []int {
	l := []int{Lines(r)}
	put := func(e api.Errno, n ...int) { l = append(append(l, n...), int(e)) }
	for _, at := range append(places(s), beyond(len(s))...) {
		m, e := Mark(r, at)
		put(e, m.Line, m.Col)
		for _, up := range []int{-2, 0, 1} {
			k, e := Up(r, at, up)
			put(e, k)
		}
		if Edge(r, at) {
			l = append(l, at)
		}
	}
	for _, line := range append(lines(s), noLines(s)...) {
		w, e := Width(r, line)
		put(e, w)
		from, to, f := Span(r, line)
		put(f, from, to)
	}
	marks(s, func(m api.Mark) {
		at, e := At(r, m)
		put(e, at, Near(r, m))
	})
	return l
}

func TestExamples(t *testing.T) {
	r := ropeOf(t, "a\néb")
	if m, e := Mark(r, 5); m != (api.Mark{Line: 1, Col: 2}) || e != api.OK {
		t.Errorf("Mark(5): %v, error %d", m, e)
	}
	for col, want := range []int{2, 4, 5} {
		if at, e := At(r, api.Mark{Line: 1, Col: col}); at != want || e != api.OK {
			t.Errorf("At(1, %d): %d, error %d", col, at, e)
		}
	}
	if at := Near(r, api.Mark{Line: 9}); at != 5 {
		t.Errorf("Near(9, 0): %d", at)
	}
	if at := Near(r, api.Mark{Col: 9}); at != 1 {
		t.Errorf("Near(0, 9): %d", at)
	}
	if at, e := Up(r, 5, 1); at != 1 || e != api.OK {
		t.Errorf("Up(5, 1): %d, error %d", at, e)
	}
}
