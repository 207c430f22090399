package edit

import (
	"math"
	"math/rand"
	"slices"
	"strings"
	"testing"
	"unicode/utf8"
	"unsafe"

	"pleacher/api"
	"pleacher/rope"
)

// ropeOf is the rope of a text that is short enough.
func ropeOf(t *testing.T, s string) rope.Rope {
	t.Helper()
	r, e := rope.Of(s)
	if e != api.OK {
		t.Fatalf("Of of %d bytes: error %d", len(s), e)
	}
	return r
}

// x is an edit.
func x(at, del int, ins string) api.Edit {
	return api.Edit{At: at, Del: del, Ins: ins}
}

// list is edits together.
func list(l ...api.Edit) []api.Edit {
	return l
}

// plainEdge tells an edge, as layer 1 words it.
func plainEdge(s string, at int) bool {
	return at == len(s) || at >= 0 && at < len(s) && (s[at] < 128 || s[at] > 191)
}

// plainMay tells whether edits may be for a text of n bytes, as the document words it; by floats, which don't wrap round.
func plainMay(n int, l []api.Edit) bool {
	end := 0.0
	for _, d := range l {
		at, to := float64(d.At), float64(d.At)+float64(d.Del)
		if d.At < 0 || d.Del < 0 || to > float64(n) || at < end {
			return false
		}
		end = to
	}
	return true
}

// plainText is the text with all edits done, from the last one on.
func plainText(s string, l []api.Edit) string {
	for _, d := range slices.Backward(l) {
		s = s[:d.At] + d.Ins + s[d.At+d.Del:]
	}
	return s
}

// plainCheck is the error of edits, as the document words it.
func plainCheck(s string, l []api.Edit) api.Errno {
	for i, d := range l {
		if !plainMay(len(s), l[:i+1]) {
			return api.ErrSpan
		}
		if !plainEdge(s, d.At) || !plainEdge(s, d.At+d.Del) || !utf8.ValidString(d.Ins) {
			return api.ErrText
		}
	}
	if len(plainText(s, l)) > api.MaxText {
		return api.ErrLimit
	}
	return api.OK
}

// plainGrow is how many bytes edits put in more than they take out.
func plainGrow(l []api.Edit) int {
	n := 0
	for _, d := range l {
		n += len(d.Ins) - d.Del
	}
	return n
}

// plainBack is the edits that take edits back, as the document words it.
func plainBack(s string, l []api.Edit) []api.Edit {
	var back []api.Edit
	for i, d := range l {
		back = append(back, x(d.At+plainGrow(l[:i]), len(d.Ins), s[d.At:d.At+d.Del]))
	}
	return back
}

// plainStep is where a place goes by one edit, as the document words it.
func plainStep(d api.Edit, at int, after bool) int {
	end, behind := d.At+d.Del, d.At+len(d.Ins)
	switch {
	case at < d.At:
		return at
	case at > end:
		return at + len(d.Ins) - d.Del
	case d.Del == 0 && after:
		return behind
	case d.Del == 0:
		return at
	case at == d.At:
		return at
	case at == end:
		return behind
	case after:
		return behind
	}
	return d.At
}

// plainMove is where a place goes by edits together, as the document words it.
func plainMove(l []api.Edit, at int, after bool) int {
	for i, d := range slices.Backward(l) {
		if d.At <= at {
			return plainStep(d, at, after) + plainGrow(l[:i])
		}
	}
	return at
}

// plainDiff is the one edit between two texts, found by trying all; of such as aren't whole it may begin at 0 without an edge there.
func plainDiff(s, t string) api.Edit {
	at := min(len(s), len(t))
	for at > 0 && (!plainEdge(s, at) || !plainEdge(t, at) || s[:at] != t[:at]) {
		at--
	}
	for del := range len(s) - at + 1 {
		to := len(t) - (len(s) - at - del)
		if to >= at && plainEdge(s, at+del) && plainEdge(t, to) && s[at+del:] == t[to:] {
			return x(at, del, t[at:to])
		}
	}
	panic("no edit")
}

// smallTexts are texts of few bytes: none, signs of one byte and of several ones, and such as aren't whole.
var smallTexts = []string{"", "a", "ab", "abc", "abcd", "é", "aé", "éa", "€", "é\n", "\x80", "a\x80", "\x80a", "\xc3", "\xff\xbfb"}

// edits are all with places from one below a text to one above it, and what is put in out of a few texts.
func edits(n int, ins ...string) []api.Edit {
	var l []api.Edit
	for at := -1; at <= n+1; at++ {
		for del := -1; del <= n+1; del++ {
			for _, s := range ins {
				l = append(l, x(at, del, s))
			}
		}
	}
	return l
}

// lists calls f for each list of at most so many edits out of some.
func lists(most int, some []api.Edit, f func(l []api.Edit)) {
	var grow func(l []api.Edit)
	grow = func(l []api.Edit) {
		f(l)
		if len(l) == most {
			return
		}
		for _, d := range some {
			grow(append(l[:len(l):len(l)], d))
		}
	}
	grow(nil)
}

// allLists calls f for each small text with each list of edits that is tried, taken or not.
func allLists(t *testing.T, f func(s string, r rope.Rope, l []api.Edit)) {
	t.Helper()
	for _, s := range smallTexts {
		r := ropeOf(t, s)
		lists(2, edits(len(s), "", "x", "é", "\x80"), func(l []api.Edit) { f(s, r, l) })
	}
	for _, s := range []string{"a", "ab", "é", "\x80a"} {
		r := ropeOf(t, s)
		lists(3, edits(len(s), "", "yz"), func(l []api.Edit) { f(s, r, l) })
	}
}

// takenLists calls f for each list of those that the document says are taken.
func takenLists(t *testing.T, f func(s string, r rope.Rope, l []api.Edit)) {
	t.Helper()
	n := 0
	allLists(t, func(s string, r rope.Rope, l []api.Edit) {
		if plainCheck(s, l) == api.OK {
			n++
			f(s, r, l)
		}
	})
	if n < 1000 {
		t.Errorf("only %d lists are taken", n)
	}
}

func TestP41Check(t *testing.T) {
	told := map[api.Errno]int{}
	allLists(t, func(s string, r rope.Rope, l []api.Edit) {
		want := plainCheck(s, l)
		told[want]++
		if e := Check(r, l...); e != want {
			t.Fatalf("Check(%q, %#v): error %d, want %d", s, l, e, want)
		}
	})
	if told[api.OK] == 0 || told[api.ErrSpan] == 0 || told[api.ErrText] == 0 {
		t.Errorf("errors told: %v", told)
	}
}

// TestP41Cases: what Check answers, for a text of 6 bytes: é has two of them, a one, € three.
func TestP41Cases(t *testing.T) {
	r := ropeOf(t, "éa€")
	for _, c := range []struct {
		name string
		l    []api.Edit
		want api.Errno
	}{
		{"no edit", nil, api.OK},
		{"an empty list", list(), api.OK},
		{"nothing done", list(x(0, 0, "")), api.OK},
		{"nothing done at the end", list(x(6, 0, "")), api.OK},
		{"nothing done often", list(x(3, 0, ""), x(3, 0, ""), x(3, 0, "")), api.OK},
		{"the whole text", list(x(0, 6, "")), api.OK},
		{"the whole text by signs", list(x(0, 2, ""), x(2, 1, ""), x(3, 3, "")), api.OK},
		{"several at one place", list(x(2, 0, "x"), x(2, 0, "y"), x(2, 1, "z"), x(3, 0, "w")), api.OK},
		{"at both ends", list(x(0, 0, "x"), x(6, 0, "y")), api.OK},
		{"behind the end", list(x(7, 0, "")), api.ErrSpan},
		{"ahead of the beginning", list(x(-1, 0, "")), api.ErrSpan},
		{"ahead of the beginning, up to a place that is", list(x(-1, 1, "")), api.ErrSpan},
		{"Del below 0", list(x(3, -1, "")), api.ErrSpan},
		{"Del beyond the text", list(x(0, 7, "")), api.ErrSpan},
		{"Del beyond the text from its end", list(x(6, 1, "")), api.ErrSpan},
		{"one ahead of the other", list(x(2, 1, ""), x(2, 0, "")), api.ErrSpan},
		{"two that overlap", list(x(0, 3, ""), x(2, 1, "")), api.ErrSpan},
		{"out of order", list(x(3, 0, "x"), x(0, 0, "y")), api.ErrSpan},
		{"the third out of order", list(x(0, 0, ""), x(3, 0, ""), x(2, 0, "")), api.ErrSpan},
		{"At is no edge", list(x(1, 1, "")), api.ErrText},
		{"At is no edge, nothing is taken out", list(x(4, 0, "x")), api.ErrText},
		{"the end is no edge", list(x(0, 1, "")), api.ErrText},
		{"neither is one", list(x(1, 3, "")), api.ErrText},
		{"a follower is put in", list(x(0, 0, "\x80")), api.ErrText},
		{"half a sign is put in", list(x(0, 0, "a\xe2\x82")), api.ErrText},
		{"no sign is put in", list(x(0, 0, "\xed\xa0\x80")), api.ErrText},
		{"the halves of a sign are put in", list(x(2, 0, "\xc3"), x(2, 0, "\xa9")), api.ErrText},
	} {
		if e := Check(r, c.l...); e != c.want {
			t.Errorf("%s: error %d, want %d", c.name, e, c.want)
		}
	}
}

// TestP41BeyondAllNumbers: places, and sums of them, that a number can't hold.
func TestP41BeyondAllNumbers(t *testing.T) {
	far := []int{math.MinInt, math.MinInt + 1, math.MinInt / 2, -1, 3, 4, 5, math.MaxInt / 2, math.MaxInt/2 + 1, math.MaxInt - 3, math.MaxInt - 1, math.MaxInt}
	r := ropeOf(t, "ab")
	for _, at := range append(far, 0, 1, 2) {
		for _, del := range far {
			for _, l := range [][]api.Edit{list(x(at, del, "")), list(x(0, 1, "x"), x(at, del, "y")), list(x(at, del, "\x80"), x(0, 0, ""))} {
				if e := Check(r, l...); e != api.ErrSpan {
					t.Errorf("Check(%#v): error %d", l, e)
				}
				if a, e := Apply(r, l...); e != api.ErrSpan || a != (rope.Rope{}) {
					t.Errorf("Apply(%#v): %q, error %d", l, a.Text(), e)
				}
				if b, e := Back(r, l...); e != api.ErrSpan || len(b) != 0 {
					t.Errorf("Back(%#v): %#v, error %d", l, b, e)
				}
			}
		}
	}
}

// TestP41Order: of several errors the one that the document names first, of the first edit that has one; the limit behind all edits.
func TestP41Order(t *testing.T) {
	r := ropeOf(t, "éa€")
	long := strings.Repeat("x", api.MaxText)
	for _, c := range []struct {
		name string
		l    []api.Edit
		want api.Errno
	}{
		{"one edit with both", list(x(7, 0, "\x80")), api.ErrSpan},
		{"no edge, and beyond the text", list(x(1, 9, "")), api.ErrSpan},
		{"no edge, and Del below 0", list(x(1, -1, "\x80")), api.ErrSpan},
		{"out of order, and no edge", list(x(2, 0, ""), x(1, 0, "")), api.ErrSpan},
		{"ErrText of the first one", list(x(1, 0, ""), x(9, 0, "")), api.ErrText},
		{"ErrSpan of the first one", list(x(9, 0, ""), x(1, 0, "")), api.ErrSpan},
		{"ErrText behind a good one", list(x(0, 0, "x"), x(4, 0, ""), x(0, 0, "")), api.ErrText},
		{"ErrSpan behind a good one", list(x(2, 0, "x"), x(0, 0, ""), x(4, 0, "")), api.ErrSpan},
		{"too long, then ErrSpan", list(x(0, 0, long), x(7, 0, "")), api.ErrSpan},
		{"too long, then ErrText", list(x(0, 0, long), x(5, 0, "")), api.ErrText},
		{"too long, and not whole", list(x(0, 0, long+"\x80")), api.ErrText},
		{"too long, and beyond the text", list(x(7, 0, long)), api.ErrSpan},
		{"too long", list(x(0, 0, long), x(6, 0, "")), api.ErrLimit},
	} {
		if e := Check(r, c.l...); e != c.want {
			t.Errorf("%s: error %d, want %d", c.name, e, c.want)
		}
		if a, e := Apply(r, c.l...); e != c.want || a != (rope.Rope{}) {
			t.Errorf("%s: Apply: %q, error %d", c.name, a.Text(), e)
		}
		if b, e := Back(r, c.l...); e != c.want || len(b) != 0 {
			t.Errorf("%s: Back: %#v, error %d", c.name, b, e)
		}
	}
}

// TestP41Limit: texts of just MaxText bytes afterwards, and of one more, whatever the text would have on the way there.
func TestP41Limit(t *testing.T) {
	text := func(n int) string { return strings.Repeat("a", n) }
	ins := func(n int) string { return strings.Repeat("é", n/2) + text(n%2) }
	for _, c := range []struct {
		name string
		s    string
		l    []api.Edit
		want api.Errno
	}{
		{"full from nothing", "", list(x(0, 0, ins(4000))), api.OK},
		{"one more from nothing", "", list(x(0, 0, ins(4001))), api.ErrLimit},
		{"full stays full", text(4000), nil, api.OK},
		{"one more", text(4000), list(x(0, 0, "b")), api.ErrLimit},
		{"one more at the end", text(4000), list(x(4000, 0, "b")), api.ErrLimit},
		{"one for one", text(4000), list(x(7, 1, "b")), api.OK},
		{"two for one", text(4000), list(x(7, 1, "é")), api.ErrLimit},
		{"all for all", text(4000), list(x(0, 4000, ins(4000))), api.OK},
		{"all for one more", text(4000), list(x(0, 4000, ins(4001))), api.ErrLimit},
		{"put in, then taken out", text(4000), list(x(0, 0, ins(3000)), x(1000, 3000, "")), api.OK},
		{"taken out, then put in", text(4000), list(x(0, 3000, ""), x(4000, 0, ins(3000))), api.OK},
		{"put in twice around", text(3000), list(x(0, 0, ins(2000)), x(1, 2500, ""), x(3000, 0, ins(1500))), api.OK},
		{"one more around", text(3000), list(x(0, 0, ins(2000)), x(1, 2500, ""), x(3000, 0, ins(1501))), api.ErrLimit},
		{"one too many of several", text(3999), list(x(0, 0, "b"), x(5, 0, "b")), api.ErrLimit},
		{"far too long", text(4000), list(x(0, 4000, text(1000000))), api.ErrLimit},
	} {
		r := ropeOf(t, c.s)
		if e := Check(r, c.l...); e != c.want {
			t.Errorf("%s: error %d, want %d", c.name, e, c.want)
		}
		a, e := Apply(r, c.l...)
		b, f := Back(r, c.l...)
		if e != c.want || f != c.want {
			t.Errorf("%s: errors %d, %d, want %d", c.name, e, f, c.want)
		}
		if c.want != api.OK {
			if a != (rope.Rope{}) || len(b) != 0 {
				t.Errorf("%s: %d bytes and %d edits beside an error", c.name, a.Len(), len(b))
			}
			continue
		}
		if a.Text() != plainText(c.s, c.l) {
			t.Errorf("%s: %d bytes, want %d", c.name, a.Len(), len(plainText(c.s, c.l)))
		}
		if y, e := Apply(a, b...); y.Text() != c.s || e != api.OK {
			t.Errorf("%s: back: %d bytes, error %d", c.name, y.Len(), e)
		}
	}
}

func TestP42Apply(t *testing.T) {
	allLists(t, func(s string, r rope.Rope, l []api.Edit) {
		want := plainCheck(s, l)
		a, e := Apply(r, l...)
		if e != want {
			t.Fatalf("Apply(%q, %#v): error %d, want %d", s, l, e, want)
		}
		if e != api.OK && a != (rope.Rope{}) {
			t.Fatalf("Apply(%q, %#v): %q beside error %d", s, l, a.Text(), e)
		}
		if e == api.OK && a.Text() != plainText(s, l) {
			t.Fatalf("Apply(%q, %#v): %q, want %q", s, l, a.Text(), plainText(s, l))
		}
	})
}

func TestP42ApplyCases(t *testing.T) {
	r := ropeOf(t, "abcd")
	for _, c := range []struct {
		l    []api.Edit
		want string
	}{
		{nil, "abcd"},
		{list(x(2, 0, "")), "abcd"},
		{list(x(0, 0, "x")), "xabcd"},
		{list(x(4, 0, "x")), "abcdx"},
		{list(x(0, 4, "")), ""},
		{list(x(0, 4, "éé")), "éé"},
		{list(x(0, 1, "x"), x(1, 1, "y"), x(2, 1, ""), x(3, 1, "z")), "xyz"},
		{list(x(1, 0, "x"), x(1, 0, "y"), x(1, 0, "z")), "axyzbcd"},
		{list(x(1, 0, "x"), x(1, 2, "y"), x(3, 0, "z")), "axyzd"},
		{list(x(0, 0, "<"), x(4, 0, ">")), "<abcd>"},
		{list(x(0, 3, ""), x(3, 0, "abc")), "abcd"},
	} {
		if a, e := Apply(r, c.l...); a.Text() != c.want || e != api.OK {
			t.Errorf("Apply(%#v): %q, error %d, want %q", c.l, a.Text(), e, c.want)
		}
		if n := Grow(c.l...); n != len(c.want)-4 {
			t.Errorf("Grow(%#v): %d, want %d", c.l, n, len(c.want)-4)
		}
	}
	if a, e := Apply(rope.Rope{}, x(0, 0, "a"), x(0, 0, ""), x(0, 0, "b")); a.Text() != "ab" || e != api.OK {
		t.Errorf("Apply to the zero rope: %q, error %d", a.Text(), e)
	}
}

func TestP42Grow(t *testing.T) {
	takenLists(t, func(s string, r rope.Rope, l []api.Edit) {
		a, _ := Apply(r, l...)
		if n := Grow(l...); n != plainGrow(l) || n != a.Len()-len(s) {
			t.Fatalf("Grow(%#v): %d, want %d", l, n, plainGrow(l))
		}
	})
	if Grow() != 0 {
		t.Errorf("Grow of no edit: %d", Grow())
	}
}

func TestP43Back(t *testing.T) {
	allLists(t, func(s string, r rope.Rope, l []api.Edit) {
		want := plainCheck(s, l)
		b, e := Back(r, l...)
		if e != want {
			t.Fatalf("Back(%q, %#v): error %d, want %d", s, l, e, want)
		}
		if e != api.OK && len(b) != 0 {
			t.Fatalf("Back(%q, %#v): %#v beside error %d", s, l, b, e)
		}
		if e == api.OK && !slices.Equal(b, plainBack(s, l)) {
			t.Fatalf("Back(%q, %#v): %#v, want %#v", s, l, b, plainBack(s, l))
		}
	})
}

func TestP43BackCases(t *testing.T) {
	r := ropeOf(t, "aéb")
	for _, c := range []struct{ l, want []api.Edit }{
		{nil, nil},
		{list(x(3, 0, "")), list(x(3, 0, ""))},
		{list(x(0, 4, "")), list(x(0, 0, "aéb"))},
		{list(x(1, 2, "€")), list(x(1, 3, "é"))},
		{list(x(1, 0, "x"), x(1, 0, "yz")), list(x(1, 1, ""), x(2, 2, ""))},
		{list(x(0, 1, ""), x(1, 2, "xyz"), x(4, 0, "w")), list(x(0, 0, "a"), x(0, 3, "é"), x(4, 1, ""))},
	} {
		if b, e := Back(r, c.l...); !slices.Equal(b, c.want) || e != api.OK {
			t.Errorf("Back(%#v): %#v, error %d, want %#v", c.l, b, e, c.want)
		}
	}
}

func TestP44Move(t *testing.T) {
	takenLists(t, func(s string, r rope.Rope, l []api.Edit) {
		for at := -2; at <= len(s)+2; at++ {
			for _, after := range []bool{false, true} {
				if k := Move(l, at, after); k != plainMove(l, at, after) {
					t.Fatalf("Move(%#v, %d, %v): %d, want %d", l, at, after, k, plainMove(l, at, after))
				}
			}
		}
	})
}

// TestP44Cases: where places go, not after and after.
func TestP44Cases(t *testing.T) {
	for _, c := range []struct {
		name          string
		l             []api.Edit
		at, to, after int
	}{
		{"no edit", nil, 3, 3, 3},
		{"an edit that does nothing", list(x(3, 0, "")), 3, 3, 3},
		{"put in: below At", list(x(3, 0, "xy")), 2, 2, 2},
		{"put in: at At", list(x(3, 0, "xy")), 3, 3, 5},
		{"put in: behind", list(x(3, 0, "xy")), 4, 6, 6},
		{"put in at the beginning", list(x(0, 0, "xy")), 0, 0, 2},
		{"taken out: below At", list(x(2, 3, "")), 1, 1, 1},
		{"taken out: at At", list(x(2, 3, "")), 2, 2, 2},
		{"taken out: between", list(x(2, 3, "")), 3, 2, 2},
		{"taken out: at At and Del together", list(x(2, 3, "")), 5, 2, 2},
		{"taken out: behind", list(x(2, 3, "")), 6, 3, 3},
		{"both: below At", list(x(2, 3, "xyzw")), 1, 1, 1},
		{"both: at At", list(x(2, 3, "xyzw")), 2, 2, 2},
		{"both: the first between", list(x(2, 3, "xyzw")), 3, 2, 6},
		{"both: the last between", list(x(2, 3, "xyzw")), 4, 2, 6},
		{"both: at At and Del together", list(x(2, 3, "xyzw")), 5, 6, 6},
		{"both: behind", list(x(2, 3, "xyzw")), 6, 7, 7},
		{"one byte out", list(x(2, 1, "xy")), 2, 2, 2},
		{"one byte out: its end", list(x(2, 1, "xy")), 3, 4, 4},
		{"two put in at one place", list(x(2, 0, "x"), x(2, 0, "yz")), 2, 3, 5},
		{"three at one place", list(x(2, 0, "x"), x(2, 0, ""), x(2, 1, "yz")), 2, 3, 3},
		{"one begins where one ends", list(x(1, 2, "x"), x(3, 2, "yz")), 3, 2, 2},
		{"put in where one ends", list(x(1, 2, "x"), x(3, 0, "yz")), 3, 2, 4},
		{"ends where the next one begins not", list(x(1, 2, "x"), x(4, 1, "yz")), 3, 2, 2},
		{"between two", list(x(0, 0, "xyz"), x(5, 1, "w")), 4, 7, 7},
		{"within the second one", list(x(0, 1, "xyz"), x(3, 2, "w")), 4, 5, 6},
		{"behind all", list(x(0, 1, ""), x(3, 2, "w"), x(6, 0, "uv")), 9, 9, 9},
		{"ahead of all", list(x(3, 1, "x"), x(5, 1, "y")), 1, 1, 1},
	} {
		if k := Move(c.l, c.at, false); k != c.to {
			t.Errorf("%s: %d, want %d", c.name, k, c.to)
		}
		if k := Move(c.l, c.at, true); k != c.after {
			t.Errorf("%s, after: %d, want %d", c.name, k, c.after)
		}
	}
}

// TestP44BytesMove: a byte that stays is found where its place went; what is held against is the text, not the document's words on places.
func TestP44BytesMove(t *testing.T) {
	const s = "abcdef"
	r := ropeOf(t, s)
	l := list(x(0, 1, "XY"), x(2, 0, "Z"), x(3, 2, ""), x(6, 0, "W"))
	a, _ := Apply(r, l...)
	for _, at := range []int{1, 2, 5} {
		k := Move(l, at, true)
		if c, ok := a.At(k); c != s[at] || !ok {
			t.Errorf("place %d went to %d of %q", at, k, a.Text())
		}
	}
}

// diffSigns are signs of which some begin, and some end, with the same bytes.
var diffSigns = []string{"a", "b", "é", "è", "ĩ", "€", "∬", "\U0001F4A9", "\U0001F5A9"}

// diffTexts are all texts of at most n of these signs.
func diffTexts(n int) []string {
	l := []string{""}
	for i := 0; i < len(l); i++ {
		if utf8.RuneCountInString(l[i]) < n {
			for _, c := range diffSigns {
				l = append(l, l[i]+c)
			}
		}
	}
	return l
}

// sameDiff holds Diff against all that the document says of it.
func sameDiff(t *testing.T, s, to string) {
	t.Helper()
	d := Diff(s, to)
	if d != plainDiff(s, to) {
		t.Fatalf("Diff(%q, %q): %#v, want %#v", s, to, d, plainDiff(s, to))
	}
	r, e := rope.Of(s)
	if e != api.OK || len(to) > api.MaxText {
		return
	}
	if a, e := Apply(r, d); a.Text() != to || e != api.OK {
		t.Fatalf("Diff(%q, %q): %#v makes %q, error %d", s, to, d, a.Text(), e)
	}
}

func TestP45Diff(t *testing.T) {
	l := diffTexts(2)
	for _, s := range l {
		for _, to := range l {
			sameDiff(t, s, to)
			sameDiff(t, "a"+s+"b", "a"+to+"b")
			sameDiff(t, "éa"+s+"é", "é"+to+"aé")
		}
	}
	var few []string
	lists(5, list(x(0, 0, "a"), x(0, 0, "é"), x(0, 0, "è")), func(l []api.Edit) { few = append(few, plainText("", l)) })
	for _, s := range few {
		for _, to := range few {
			sameDiff(t, s, to)
		}
	}
}

func TestP45Cases(t *testing.T) {
	for _, c := range []struct {
		s, to string
		want  api.Edit
	}{
		{"", "", x(0, 0, "")},
		{"abc", "abc", x(3, 0, "")},
		{"é€", "é€", x(5, 0, "")},
		{"", "aé", x(0, 0, "aé")},
		{"aé", "", x(0, 3, "")},
		{"abc", "axc", x(1, 1, "x")},
		{"abc", "abcd", x(3, 0, "d")},
		{"abc", "dabc", x(0, 0, "d")},
		{"abcd", "bcd", x(0, 1, "")},
		{"abcd", "abc", x(3, 1, "")},
		{"ab", "ba", x(0, 2, "ba")},
		{"aa", "aaa", x(2, 0, "a")},
		{"aaa", "aa", x(2, 1, "")},
		{"abab", "ababab", x(4, 0, "ab")},
		{"xaay", "xay", x(2, 1, "")},
		{"xay", "xaay", x(2, 0, "a")},
		{"aéb", "aèb", x(1, 2, "è")},
		{"aéb", "aĩb", x(1, 2, "ĩ")},
		{"€", "∬", x(0, 3, "∬")},
		{"é", "éé", x(2, 0, "é")},
		{"é", "ĩé", x(0, 0, "ĩ")},
		{"éa", "éĩa", x(2, 0, "ĩ")},
		{"ĩ", "é", x(0, 2, "é")},
		{"a\nb", "a\n\nb", x(2, 0, "\n")},
	} {
		if d := Diff(c.s, c.to); d != c.want {
			t.Errorf("Diff(%q, %q): %#v, want %#v", c.s, c.to, d, c.want)
		}
	}
}

// TestP45LongTexts: texts longer than a rope may be have an edit too.
func TestP45LongTexts(t *testing.T) {
	long := strings.Repeat("é", 5000)
	if d := Diff(long+"é"+long, long+"è"+long); d != x(10000, 2, "è") {
		t.Errorf("a sign amid many: %#v", d)
	}
	if d := Diff(long, long+"a"); d != x(10000, 0, "a") {
		t.Errorf("a sign behind many: %#v", d)
	}
	if d := Diff("", long); d != x(0, 0, long) {
		t.Errorf("many: At %d, Del %d, %d bytes", d.At, d.Del, len(d.Ins))
	}
}

// TestP45BrokenTexts: of texts that aren't whole Diff's edit makes the one of the other all the same.
func TestP45BrokenTexts(t *testing.T) {
	var l []string
	lists(4, list(x(0, 0, "a"), x(0, 0, "\x80"), x(0, 0, "\xc3")), func(l2 []api.Edit) { l = append(l, plainText("", l2)) })
	for _, s := range l {
		for _, to := range l {
			d := Diff(s, to)
			if d != plainDiff(s, to) {
				t.Fatalf("Diff(%q, %q): %#v, want %#v", s, to, d, plainDiff(s, to))
			}
			if got := plainText(s, list(d)); got != to {
				t.Fatalf("Diff(%q, %q): %#v makes %q", s, to, d, got)
			}
		}
	}
}

func TestP46ApplyOfBack(t *testing.T) {
	takenLists(t, func(s string, r rope.Rope, l []api.Edit) {
		if !utf8.ValidString(s) {
			return
		}
		a, _ := Apply(r, l...)
		b, _ := Back(r, l...)
		if y, e := Apply(a, b...); y.Text() != s || e != api.OK {
			t.Fatalf("%q, %#v: Apply of Back: %q, error %d", s, l, y.Text(), e)
		}
		if again, e := Back(a, b...); !slices.Equal(again, l) || e != api.OK {
			t.Fatalf("%q, %#v: Back of Back: %#v, error %d", s, l, again, e)
		}
		if Grow(b...) != -Grow(l...) {
			t.Fatalf("%q, %#v: Grow of Back: %d", s, l, Grow(b...))
		}
	})
}

// outside tells whether a place lies neither in what edits take out nor at an end of that.
func outside(l []api.Edit, at int) bool {
	for _, d := range l {
		if d.Del > 0 && d.At <= at && at <= d.At+d.Del {
			return false
		}
	}
	return true
}

func TestP46PlacesComeBack(t *testing.T) {
	n := 0
	takenLists(t, func(s string, r rope.Rope, l []api.Edit) {
		b, _ := Back(r, l...)
		for at := range len(s) + 1 {
			if !outside(l, at) {
				continue
			}
			n++
			for _, after := range []bool{false, true} {
				if k := Move(b, Move(l, at, after), after); k != at {
					t.Fatalf("%q, %#v: place %d came back to %d", s, l, at, k)
				}
			}
		}
	})
	if n < 1000 {
		t.Errorf("only %d places", n)
	}
}

// TestP46AsItIs: edits are looked at in the text as it is, not in what those ahead of them make of it.
func TestP46AsItIs(t *testing.T) {
	r := ropeOf(t, "éa")
	for _, c := range []struct {
		name string
		l    []api.Edit
		e    api.Errno
		want string
	}{
		{"a place that is only there afterwards", list(x(3, 0, "xyz"), x(5, 0, "w")), api.ErrSpan, ""},
		{"bytes that are only there afterwards", list(x(0, 0, "xyz"), x(2, 4, "")), api.ErrSpan, ""},
		{"a place that is no longer there afterwards", list(x(0, 2, ""), x(3, 0, "w")), api.OK, "aw"},
		{"an edge that is only there afterwards", list(x(0, 0, "x"), x(1, 0, "y")), api.ErrText, ""},
		{"no edge afterwards", list(x(0, 0, "€"), x(2, 0, "y")), api.OK, "€éya"},
		{"what is put in isn't taken out", list(x(2, 0, "x"), x(2, 1, "")), api.OK, "éx"},
	} {
		if e := Check(r, c.l...); e != c.e {
			t.Errorf("%s: error %d, want %d", c.name, e, c.e)
		}
		if a, e := Apply(r, c.l...); a.Text() != c.want || e != c.e {
			t.Errorf("%s: %q, error %d, want %q", c.name, a.Text(), e, c.want)
		}
	}
}

// manyEdits are edits that may be for a text, at edges of it.
func manyEdits(some *rand.Rand, s string) []api.Edit {
	var l []api.Edit
	end := 0
	for end <= len(s) && len(l) < 40 {
		at := end + some.Intn(len(s)/10+1)
		to := at + some.Intn(len(s)/20+1)
		for at < len(s) && !plainEdge(s, at) {
			at++
		}
		for to = max(to, at); to < len(s) && !plainEdge(s, to); {
			to++
		}
		if to > len(s) {
			break
		}
		l = append(l, x(at, to-at, strings.Repeat("x€", some.Intn(80))))
		end = to
	}
	return l
}

// TestLongTexts: texts of many pieces, and many edits together, one list behind the other.
func TestLongTexts(t *testing.T) {
	some := rand.New(rand.NewSource(4))
	taken, refused := 0, 0
	for range 40 {
		s := strings.Repeat("ab\né€\n\n😀 x", some.Intn(230))
		r := ropeOf(t, s)
		for range 10 {
			l := manyEdits(some, s)
			want := plainCheck(s, l)
			a, e := Apply(r, l...)
			b, f := Back(r, l...)
			if e != want || f != want {
				t.Fatalf("%d edits of %d bytes: errors %d, %d, want %d", len(l), len(s), e, f, want)
			}
			if e != api.OK {
				refused++
				continue
			}
			taken += len(l)
			if a.Text() != plainText(s, l) || !slices.Equal(b, plainBack(s, l)) {
				t.Fatalf("%d edits of %d bytes: %d bytes, want %d", len(l), len(s), a.Len(), len(plainText(s, l)))
			}
			if y, e := Apply(a, b...); y.Text() != s || e != api.OK {
				t.Fatalf("%d edits back: error %d", len(b), e)
			}
			for at := range len(s) + 1 {
				if k := Move(l, at, at%2 == 0); k != plainMove(l, at, at%2 == 0) {
					t.Fatalf("Move(%d): %d", at, k)
				}
			}
			if d := Diff(s, a.Text()); d != plainDiff(s, a.Text()) {
				t.Fatalf("Diff: At %d, Del %d, %d bytes", d.At, d.Del, len(d.Ins))
			}
			s, r = a.Text(), a
		}
	}
	if taken < 1000 || refused < 10 {
		t.Errorf("%d edits taken, %d lists refused", taken, refused)
	}
}

// TestManyEdits: edits that do nothing are no fewer edits for it, and as many as one likes may be.
func TestManyEdits(t *testing.T) {
	l := make([]api.Edit, 20000)
	for i := range l {
		l[i].At = i / 5
	}
	s := strings.Repeat("a", api.MaxText)
	r := ropeOf(t, s)
	if a, e := Apply(r, l...); a.Text() != s || e != api.OK {
		t.Errorf("Apply: %d bytes, error %d", a.Len(), e)
	}
	if b, e := Back(r, l...); !slices.Equal(b, l) || e != api.OK {
		t.Errorf("Back: %d edits, error %d", len(b), e)
	}
	if Grow(l...) != 0 || Move(l, 77, true) != 77 {
		t.Errorf("Grow %d, Move %d", Grow(l...), Move(l, 77, true))
	}
}

// TestGivenStays: a rope and a list of edits that were given stay as they were, the list's spare room too.
func TestGivenStays(t *testing.T) {
	const s = "aéb€c"
	for _, l := range [][]api.Edit{list(x(0, 1, "xy"), x(3, 0, "z"), x(4, 3, "")), list(x(0, 8, "w")), list(x(3, 0, "z"), x(0, 0, "")), list(x(2, 0, "")), list(x(0, 0, strings.Repeat("x", 4000)))} {
		r := ropeOf(t, s)
		was, height := r, r.Height()
		room := append(slices.Clone(l), x(7, 7, "spare"), x(8, 8, "room"))
		kept := slices.Clone(room)
		given := room[:len(l)]
		Check(r, given...)
		a, e := Apply(r, given...)
		b, f := Back(r, given...)
		Grow(given...)
		Move(given, 3, true)
		if !slices.Equal(room, kept) {
			t.Errorf("%#v became %#v", kept, room)
		}
		if r != was || r.Text() != s || r.Height() != height {
			t.Errorf("the rope became %q", r.Text())
		}
		for i := range room {
			room[i] = x(9, 9, "other")
		}
		if again, g := Apply(r, l...); a.Text() != again.Text() || e != g {
			t.Errorf("Apply: %q, error %d, then %q, error %d", a.Text(), e, again.Text(), g)
		}
		if again, g := Back(r, l...); !slices.Equal(b, again) || f != g {
			t.Errorf("Back: %#v, error %d, then %#v, error %d", b, f, again, g)
		}
	}
}

// TestAnswerIsNew: an answer shares no memory with what was given, nor with another answer.
func TestAnswerIsNew(t *testing.T) {
	r := ropeOf(t, "abcd")
	l := list(x(1, 1, "xy"), x(3, 0, "z"))
	b, _ := Back(r, l...)
	c, _ := Back(r, l...)
	b[0], b[1] = x(0, 0, "other"), x(0, 0, "other")
	if want := list(x(1, 2, "b"), x(4, 1, "")); !slices.Equal(c, want) {
		t.Errorf("another answer became %#v", c)
	}
	if want := list(x(1, 1, "xy"), x(3, 0, "z")); !slices.Equal(l, want) {
		t.Errorf("what was given became %#v", l)
	}
	to := "axyzd"
	d := Diff("abcd", to)
	if d.Ins != "xyz" || unsafe.StringData(d.Ins) == unsafe.StringData(to[1:]) {
		t.Errorf("Diff's %q is a piece of what was given", d.Ins)
	}
}

// TestTotal: calls end without a panic, whatever they are given.
func TestTotal(t *testing.T) {
	wild := []int{math.MinInt, math.MinInt + 1, -7, -1, 0, 1, 2, 7, math.MaxInt - 1, math.MaxInt}
	var some []api.Edit
	for _, at := range wild {
		for _, del := range wild {
			some = append(some, x(at, del, "\xff"), x(at, del, ""))
		}
	}
	r := ropeOf(t, "aé")
	lists(2, some, func(l []api.Edit) {
		Grow(l...)
		for _, at := range []int{math.MinInt, -1, 1, math.MaxInt} {
			Move(l, at, false)
			Move(l, at, true)
		}
		if e := Check(r, l...); e != plainCheck("aé", l) {
			t.Fatalf("Check(%#v): error %d", l, e)
		}
	})
	for _, at := range wild {
		if k := Move(nil, at, true); k != at {
			t.Errorf("Move of no edit: %d, want %d", k, at)
		}
	}
}

func TestExamples(t *testing.T) {
	r := ropeOf(t, "abcd")
	l := list(x(1, 1, "xy"), x(3, 0, "z"))
	if a, e := Apply(r, l...); a.Text() != "axyczd" || e != api.OK {
		t.Errorf("Apply: %q, error %d", a.Text(), e)
	}
	if b, e := Back(r, l...); !slices.Equal(b, list(x(1, 2, "b"), x(4, 1, ""))) || e != api.OK {
		t.Errorf("Back: %#v, error %d", b, e)
	}
	if Move(l, 3, false) != 4 || Move(l, 3, true) != 5 || Move(l, 2, false) != 3 || Move(l, 2, true) != 3 {
		t.Errorf("Move: %d, %d, %d", Move(l, 3, false), Move(l, 3, true), Move(l, 2, false))
	}
	if d := Diff("abc", "axc"); d != x(1, 1, "x") {
		t.Errorf("Diff: %#v", d)
	}
}
