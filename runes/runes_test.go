package runes

import (
	"math"
	"strings"
	"testing"
	"unicode/utf8"
)

// wholeTexts are texts of signs, with those beside each bound of how many bytes a sign has.
var wholeTexts = []string{
	"", "a", "aé", "éa", "é€😀", "a\nb\r\n", "\x00", "\x7f\u0080", "\u07ff\u0800", "\ud7ff\ue000", "\uffff\U00010000", "\U0010ffff", "e\u0301", strings.Repeat("é€", 700),
}

// brokenTexts are texts that aren't whole: cut off, begun with a follower, written too long, numbers that are no signs.
var brokenTexts = []string{
	"\x80", "\xbf", "a\x80", "\x80a", "\x80\x80", "é\x80", "\xc3", "\xc3a", "\xc3\xc3\xa9", "a\xe2\x82", "\xe2", "\xe2\x82a", "\xf0\x9f\x98", "\xf0\x9f", "\xf0", "😀\xf0\x9f\x98a",
	"\xc0\x80", "\xc1\xbf", "\xe0\x80\x80", "\xe0\x9f\xbf", "\xf0\x80\x80\x80", "\xf0\x8f\xbf\xbf",
	"\xed\xa0\x80", "\xed\xbf\xbf", "\xf4\x90\x80\x80", "\xf7\xbf\xbf\xbf", "\xf8\x88\x80\x80\x80", "\xfc\x84\x80\x80\x80\x80", "\xfe", "\xff", "aé\xff", "\xffaé",
}

// shortTexts calls f for each text of at most n bytes out of those beside the bounds of bytes' kinds.
func shortTexts(n int, f func(string)) {
	some := []byte{0, 'a', 127, 128, 143, 144, 159, 160, 191, 192, 193, 194, 223, 224, 225, 237, 239, 240, 241, 244, 245, 247, 248, 255}
	var grow func(s []byte)
	grow = func(s []byte) {
		f(string(s))
		if len(s) == n {
			return
		}
		for _, c := range some {
			grow(append(s[:len(s):len(s)], c))
		}
	}
	grow(nil)
}

// edgyTexts calls f for each text that edges and counts are tried on.
func edgyTexts(f func(string)) {
	for _, s := range wholeTexts {
		f(s)
	}
	for _, s := range brokenTexts {
		f(s)
	}
	shortTexts(3, f)
}

// places are those of a text, some beyond both its ends, and the outermost numbers.
func places(s string) []int {
	l := []int{math.MinInt, math.MinInt + 1, -1000, math.MaxInt - 1, math.MaxInt}
	if len(s) > 64 {
		return append(l, -1, 0, 1, 2, 3, 4, 5, len(s)/2, len(s)-1, len(s), len(s)+1)
	}
	for i := -3; i <= len(s)+3; i++ {
		l = append(l, i)
	}
	return l
}

func plainFollower(c byte) bool { return c>>6 == 2 }

// plainEdges are a text's edges, as the document words them, rising.
func plainEdges(s string) []int {
	var l []int
	for i := 0; i <= len(s); i++ {
		if i == len(s) || !plainFollower(s[i]) {
			l = append(l, i)
		}
	}
	return l
}

func plainCount(s string) int {
	n := 0
	for _, c := range []byte(s) {
		if !plainFollower(c) {
			n++
		}
	}
	return n
}

func TestP11Whole(t *testing.T) {
	for _, s := range wholeTexts {
		if !Whole(s) {
			t.Errorf("Whole(%q): no", s)
		}
	}
	for _, s := range brokenTexts {
		if Whole(s) {
			t.Errorf("Whole(%q): yes", s)
		}
	}
	shortTexts(4, func(s string) {
		if Whole(s) != utf8.ValidString(s) {
			t.Errorf("Whole(% x): %v", s, Whole(s))
		}
	})
}

func TestP11First(t *testing.T) {
	if n, k := First("é"); n != 233 || k != 2 {
		t.Errorf("First(é): %d, %d", n, k)
	}
	if n, k := First("\xc3\xa9\xff"); n != 233 || k != 2 {
		t.Errorf("what stands behind the sign: %d, %d", n, k)
	}
	shortTexts(4, func(s string) {
		r, size := utf8.DecodeRuneInString(s)
		want := int(r)
		if r == utf8.RuneError && size < 2 {
			want, size = -1, 0
		}
		if n, k := First(s); n != want || k != size {
			t.Errorf("First(% x): %d, %d, not %d, %d", s, n, k, want, size)
		}
	})
}

func TestP11Bytes(t *testing.T) {
	known := map[int]string{
		0: "\x00", 97: "a", 127: "\x7f", 128: "\xc2\x80", 233: "\xc3\xa9", 2047: "\xdf\xbf", 2048: "\xe0\xa0\x80", 8364: "\xe2\x82\xac",
		55295: "\xed\x9f\xbf", 55296: "", 56320: "", 57343: "", 57344: "\xee\x80\x80", 65533: "\xef\xbf\xbd", 65535: "\xef\xbf\xbf",
		65536: "\xf0\x90\x80\x80", 128512: "😀", 1114111: "\xf4\x8f\xbf\xbf", 1114112: "", 2097152: "",
		-1: "", -128: "", math.MinInt: "", math.MaxInt: "", 1 << 32: "", 1<<32 + 97: "",
	}
	for n, want := range known {
		if s := Bytes(n); s != want {
			t.Errorf("Bytes(%d): % x, not % x", n, s, want)
		}
	}
	for n := -300; n < 1114112+300; n++ {
		want := ""
		if utf8.ValidRune(rune(n)) {
			want = string(rune(n))
		}
		s := Bytes(n)
		if s != want {
			t.Fatalf("Bytes(%d): % x, not % x", n, s, want)
		}
		if m, k := First(s); want != "" && (m != n || k != len(s)) {
			t.Fatalf("First(Bytes(%d)): %d, %d", n, m, k)
		}
	}
}

func TestP12Examples(t *testing.T) {
	if Edge("é", 1) || !Edge("é", 0) || !Edge("é", 2) || Edge("é", 3) || Edge("é", -1) {
		t.Error("Edge of é")
	}
	if !Edge("", 0) || Edge("", 1) || Edge("", -1) {
		t.Error("Edge of nothing")
	}
	if Edge("\x80", 0) || !Edge("\x80", 1) {
		t.Error("Edge of a follower")
	}
	if i := Next("aé", 1); i != 3 {
		t.Error("Next(aé, 1):", i)
	}
	if i := Back("aé", 3); i != 1 {
		t.Error("Back(aé, 3):", i)
	}
	if i := Next("\x80\x80", -1); i != 0 {
		t.Error("Next below 0 where 0 is no edge:", i)
	}
	if i := Back("\x80\x80", 2); i != 0 {
		t.Error("Back where there is no edge:", i)
	}
	if i := Back("\x80\x80", 3); i != 2 {
		t.Error("Back from above the length:", i)
	}
	if Next("", 0) != 0 || Back("", 0) != 0 || Next("", 1) != 0 || Back("", 1) != 0 {
		t.Error("Next and Back of nothing")
	}
}

func TestP12Edges(t *testing.T) {
	edgyTexts(func(s string) {
		edges := plainEdges(s)
		for _, i := range places(s) {
			at, next, back := false, len(s), 0
			for _, e := range edges {
				at = at || e == i
				if e < i {
					back = e
				}
			}
			for j := len(edges) - 1; j >= 0 && edges[j] > i; j-- {
				next = edges[j]
			}
			if i < 0 {
				next = 0
			}
			if got := Edge(s, i); got != at {
				t.Errorf("Edge(% x, %d): %v", s, i, got)
			}
			if got := Next(s, i); got != next {
				t.Errorf("Next(% x, %d): %d, not %d", s, i, got, next)
			}
			if got := Back(s, i); got != back {
				t.Errorf("Back(% x, %d): %d, not %d", s, i, got, back)
			}
		}
	})
}

func TestP13Examples(t *testing.T) {
	for s, want := range map[string]int{"": 0, "aé": 2, "é€😀": 3, "\x80": 0, "\x80a\xbf": 1, "\xff\xc3": 2} {
		if n := Count(s); n != want {
			t.Errorf("Count(%q): %d, not %d", s, n, want)
		}
	}
	for _, c := range []struct {
		s       string
		n, want int
	}{
		{"", 0, 0}, {"", 5, 0}, {"", -1, 0},
		{"aé€", -1, 0}, {"aé€", 0, 0}, {"aé€", 1, 1}, {"aé€", 2, 3}, {"aé€", 3, 6}, {"aé€", 4, 6},
		{"\x80a", 0, 1}, {"\x80a", -1, 0}, {"\x80a", 1, 2}, {"\x80\x80", 0, 2}, {"a\x80\x80", 0, 0}, {"a\x80\x80", 1, 3},
		{"ab", math.MaxInt, 2}, {"ab", math.MinInt, 0},
	} {
		if i := Cut(c.s, c.n); i != c.want {
			t.Errorf("Cut(%q, %d): %d, not %d", c.s, c.n, i, c.want)
		}
	}
}

func TestP13Counts(t *testing.T) {
	edgyTexts(func(s string) {
		if n := Count(s); n != plainCount(s) {
			t.Errorf("Count(% x): %d, not %d", s, n, plainCount(s))
		}
		edges := plainEdges(s)
		for _, n := range places(s) {
			want := 0
			for _, e := range edges {
				if n >= 0 && plainCount(s[:e]) <= n {
					want = e
				}
			}
			if i := Cut(s, n); i != want {
				t.Errorf("Cut(% x, %d): %d, not %d", s, n, i, want)
			}
		}
	})
}

// signsBegin are the places at which the signs of a whole text begin, and its end; they are read by the library, so that runes isn't held against itself.
func signsBegin(s string) []int {
	var l []int
	for i := range s {
		l = append(l, i)
	}
	return append(l, len(s))
}

func TestP14WholeTexts(t *testing.T) {
	try := func(s string) {
		if !utf8.ValidString(s) {
			return
		}
		begin := signsBegin(s)
		if n := Count(s); n != len(begin)-1 {
			t.Errorf("Count(%q): %d, not %d signs", s, n, len(begin)-1)
		}
		var edges []int
		for i := -1; i <= len(s)+1; i++ {
			if Edge(s, i) {
				edges = append(edges, i)
			}
		}
		if len(edges) != len(begin) {
			t.Fatalf("edges of %q: %v, not %v", s, edges, begin)
		}
		for k, e := range edges {
			if e != begin[k] {
				t.Fatalf("edges of %q: %v, not %v", s, edges, begin)
			}
			if i := Cut(s, k); i != e {
				t.Errorf("Cut(%q, %d): %d, not %d", s, k, i, e)
			}
			if k > 0 && (Back(s, e) != edges[k-1] || Next(s, edges[k-1]) != e) {
				t.Errorf("%q: Next and Back don't go over one sign at %d", s, e)
			}
			for _, from := range edges[:min(k+1, 40)] {
				if !Whole(s[from:e]) {
					t.Errorf("the piece %d to %d of %q isn't whole", from, e, s)
				}
			}
		}
	}
	for _, s := range wholeTexts {
		try(s)
	}
	shortTexts(4, try)
	for n := 0; n < 1114112; n += 37 {
		try("a" + Bytes(n) + "é")
	}
}
