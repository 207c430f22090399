package rope

import (
	"math"
	"math/bits"
	"math/rand"
	"strings"
	"testing"

	"pleacher/api"
)

// blend is a text of n bytes with line feeds, signs of all lengths, and followers that stand alone.
func blend(n int) string {
	return strings.Repeat("ab\né€\n\n😀 x\x80\xbf\xc3z", 1+n/20)[:n]
}

// sizes are lengths beside the bounds of one piece, two pieces and a text.
var sizes = []int{0, 1, 2, 63, 64, 65, 66, 127, 128, 129, 130, 1000, 3999, 4000}

// must is the rope of a text that is short enough.
func must(t *testing.T, s string) Rope {
	t.Helper()
	r, e := Of(s)
	if e != api.OK {
		t.Fatalf("Of of %d bytes: error %d", len(s), e)
	}
	return r
}

// ropesOf are ropes of the same text, made in unlike ways.
func ropesOf(t *testing.T, s string) []Rope {
	t.Helper()
	l := []Rope{must(t, s)}
	var back, front, mid Rope
	for i := range len(s) {
		back, _ = back.Put(i, s[i:i+1])
		front, _ = front.Put(0, s[len(s)-1-i:len(s)-i])
	}
	for i := range len(s) {
		c := s[i/2]
		if i%2 == 1 {
			c = s[len(s)-1-i/2]
		}
		mid, _ = mid.Put((i+1)/2, string([]byte{c}))
	}
	var small []Rope
	for i := 0; i < len(s); i += 7 {
		small = append(small, must(t, s[i:min(i+7, len(s))]), Rope{})
	}
	joined, e := Join(small...)
	if e != api.OK {
		t.Fatalf("Join: error %d", e)
	}
	return append(l, back, front, mid, joined)
}

// sound holds a rope against its text, and its parts against what the document says of pieces and heights.
func sound(t *testing.T, r Rope, want string) {
	t.Helper()
	if got := r.Text(); got != want {
		t.Fatalf("text of %d bytes %.80q, want %d bytes %.80q", len(got), got, len(want), want)
	}
	if r.Len() != len(want) {
		t.Fatalf("Len %d, want %d", r.Len(), len(want))
	}
	text, height := walk(t, r.top)
	if text != want || height != r.Height() {
		t.Fatalf("parts: %d bytes and height %d, want %d and %d", len(text), height, len(want), r.Height())
	}
	if n := bits.Len(uint(len(want))); height > 2*n {
		t.Fatalf("height %d of %d bytes", height, len(want))
	}
}

// walk is a part's text and height, worked out from its pieces alone.
func walk(t *testing.T, p *part) (string, int) {
	t.Helper()
	if p == nil {
		return "", 0
	}
	if (p.left == nil) != (p.right == nil) {
		t.Fatal("one part alone")
	}
	if p.single() {
		if len(p.text) < 1 || len(p.text) > 64 || p.counts != count(p.text) || p.height != 1 {
			t.Fatalf("piece of %d bytes: %v, height %d", len(p.text), p.counts, p.height)
		}
		return p.text, 1
	}
	a, high := walk(t, p.left)
	b, low := walk(t, p.right)
	if high < low {
		high, low = low, high
	}
	if p.text != "" || p.counts != count(a+b) || p.height != 1+high || high-low > 1 || len(a+b) <= 64 {
		t.Fatalf("parts of heights %d and %d: %v, height %d", high, low, p.counts, p.height)
	}
	return a + b, 1 + high
}

// outside are places that no text has.
var outside = []int{math.MinInt, math.MinInt + 1, -4001, -1, 4001, math.MaxInt - 1, math.MaxInt}

func TestP21Of(t *testing.T) {
	for _, n := range sizes {
		s := blend(n)
		sound(t, must(t, s), s)
	}
	for _, n := range []int{4001, 4002, 8000, 100000} {
		if r, e := Of(blend(n)); e != api.ErrLimit || r != (Rope{}) {
			t.Errorf("Of of %d bytes: %d bytes, error %d", n, r.Len(), e)
		}
	}
	sound(t, Rope{}, "")
}

func TestP21KeepsNoCallersText(t *testing.T) {
	b := []byte(blend(200))
	r := must(t, string(b))
	b[0] = '!'
	sound(t, r, blend(200))
}

func TestP21At(t *testing.T) {
	for _, n := range sizes {
		s := blend(n)
		for _, r := range ropesOf(t, s) {
			for i := range n {
				if c, ok := r.At(i); c != s[i] || !ok {
					t.Fatalf("At(%d) of %d bytes: %d, %v", i, n, c, ok)
				}
			}
			for _, i := range append(outside, n, n+1) {
				if c, ok := r.At(i); c != 0 || ok {
					t.Fatalf("At(%d) of %d bytes: %d, %v", i, n, c, ok)
				}
			}
		}
	}
}

// somePlaces are places of a text of n bytes: both ends, and those beside bounds of pieces.
func somePlaces(n int) []int {
	var l []int
	for _, i := range []int{0, 1, 31, 32, 33, 63, 64, 65, n / 2, n - 65, n - 64, n - 1, n} {
		if i >= 0 && i <= n {
			l = append(l, i)
		}
	}
	return l
}

// wrongSpans calls f for spans that a text of n bytes hasn't.
func wrongSpans(n int, f func(from, to int)) {
	for _, i := range append(outside, n+1) {
		for _, k := range append(somePlaces(n), outside...) {
			f(i, k)
			f(k, i)
		}
	}
	for _, i := range somePlaces(n) {
		if i > 0 {
			f(i, i-1)
			f(i, 0)
		}
	}
}

func TestP22Slice(t *testing.T) {
	for _, n := range sizes {
		s := blend(n)
		r := ropesOf(t, s)[n%5]
		for _, i := range somePlaces(n) {
			for _, k := range somePlaces(n) {
				if i > k {
					continue
				}
				if got, e := r.Slice(i, k); got != s[i:k] || e != api.OK {
					t.Fatalf("Slice(%d, %d) of %d bytes: %q, error %d", i, k, n, got, e)
				}
			}
		}
		wrongSpans(n, func(from, to int) {
			if got, e := r.Slice(from, to); got != "" || e != api.ErrSpan {
				t.Fatalf("Slice(%d, %d) of %d bytes: %q, error %d", from, to, n, got, e)
			}
		})
	}
}

func TestP22Split(t *testing.T) {
	for _, n := range sizes {
		s := blend(n)
		for _, r := range ropesOf(t, s) {
			for _, i := range somePlaces(n) {
				a, b, e := r.Split(i)
				if e != api.OK {
					t.Fatalf("Split(%d) of %d bytes: error %d", i, n, e)
				}
				sound(t, a, s[:i])
				sound(t, b, s[i:])
			}
			for _, i := range append(outside, n+1) {
				if a, b, e := r.Split(i); a != (Rope{}) || b != (Rope{}) || e != api.ErrSpan {
					t.Fatalf("Split(%d) of %d bytes: error %d", i, n, e)
				}
			}
			sound(t, r, s)
		}
	}
}

func TestP23Join(t *testing.T) {
	if r, e := Join(); r != (Rope{}) || e != api.OK {
		t.Errorf("Join of none: %q, error %d", r.Text(), e)
	}
	for _, n := range sizes {
		for _, k := range sizes {
			a, b := blend(n), blend(k + 3)[3:]
			r, e := Join(must(t, a), Rope{}, must(t, b))
			if n+k > 4000 {
				if r != (Rope{}) || e != api.ErrLimit {
					t.Errorf("Join of %d and %d bytes: %d bytes, error %d", n, k, r.Len(), e)
				}
				continue
			}
			if e != api.OK {
				t.Fatalf("Join of %d and %d bytes: error %d", n, k, e)
			}
			sound(t, r, a+b)
		}
	}
}

func TestP23JoinLimit(t *testing.T) {
	half, one := must(t, blend(2000)), must(t, "x")
	if r, e := Join(half, half); e != api.OK || r.Len() != 4000 {
		t.Errorf("%d bytes, error %d", r.Len(), e)
	}
	for _, l := range [][]Rope{{half, half, one}, {one, half, half}, {half, one, half}, {half, half, one, {}}, {half, half, half, half}} {
		if r, e := Join(l...); r != (Rope{}) || e != api.ErrLimit {
			t.Errorf("%d bytes, error %d", r.Len(), e)
		}
	}
}

func TestP23JoinLeavesItsList(t *testing.T) {
	l := make([]Rope, 3, 5)
	l[0], l[1], l[2] = must(t, blend(100)), must(t, blend(30)), must(t, blend(7))
	was := append([]Rope(nil), l[:5]...)
	r, _ := Join(l...)
	for i, w := range was {
		if l[:5][i] != w {
			t.Errorf("rope %d of the list has changed", i)
		}
	}
	l[0] = Rope{}
	sound(t, r, blend(100)+blend(30)+blend(7))
	sound(t, was[0], blend(100))
}

func TestP23Put(t *testing.T) {
	for _, n := range sizes {
		s := blend(n)
		for _, r := range ropesOf(t, s) {
			for _, i := range somePlaces(n) {
				for _, put := range []string{"", "x", "é\n", strings.Repeat("y", 64), strings.Repeat("z", 65), strings.Repeat("w\n", 400)} {
					got, e := r.Put(i, put)
					if n+len(put) > 4000 {
						if got != (Rope{}) || e != api.ErrLimit {
							t.Fatalf("Put(%d) of %d bytes to %d: error %d", i, len(put), n, e)
						}
						continue
					}
					if e != api.OK {
						t.Fatalf("Put(%d) of %d bytes to %d: error %d", i, len(put), n, e)
					}
					sound(t, got, s[:i]+put+s[i:])
				}
			}
			sound(t, r, s)
		}
	}
}

func TestP23PutRefused(t *testing.T) {
	for _, n := range sizes {
		r := must(t, blend(n))
		for _, i := range append(outside, n+1) {
			// A place that there isn't is told ahead of a text that is too long.
			for _, put := range []string{"", "x", blend(4001 - n), blend(5000)} {
				if got, e := r.Put(i, put); got != (Rope{}) || e != api.ErrSpan {
					t.Fatalf("Put(%d) of %d bytes to %d: error %d", i, len(put), n, e)
				}
			}
		}
		if got, e := r.Put(n, blend(4000-n)); got.Len() != 4000 || e != api.OK {
			t.Errorf("Put to the bound: %d bytes, error %d", got.Len(), e)
		}
		if got, e := r.Put(n, blend(4001-n)); got != (Rope{}) || e != api.ErrLimit {
			t.Errorf("Put beyond the bound: %d bytes, error %d", got.Len(), e)
		}
	}
}

func TestP23Take(t *testing.T) {
	for _, n := range sizes {
		s := blend(n)
		for _, r := range ropesOf(t, s) {
			for _, i := range somePlaces(n) {
				for _, k := range somePlaces(n) {
					if i > k {
						continue
					}
					got, e := r.Take(i, k)
					if e != api.OK {
						t.Fatalf("Take(%d, %d) of %d bytes: error %d", i, k, n, e)
					}
					sound(t, got, s[:i]+s[k:])
				}
			}
			sound(t, r, s)
		}
		wrongSpans(n, func(from, to int) {
			if got, e := must(t, s).Take(from, to); got != (Rope{}) || e != api.ErrSpan {
				t.Fatalf("Take(%d, %d) of %d bytes: error %d", from, to, n, e)
			}
		})
	}
}

func TestP24Height(t *testing.T) {
	for n, want := range map[int]int{0: 0, 1: 1, 63: 1, 64: 1, 65: 2, 128: 2, 129: 3, 256: 3, 257: 4, 4000: 7} {
		if got := must(t, blend(n)).Height(); got != want {
			t.Errorf("height of %d bytes: %d, want %d", n, got, want)
		}
	}
	one := must(t, strings.Repeat("x", 64))
	if two, _ := Join(one, one); two.Height() != 2 {
		t.Errorf("height of two pieces: %d", two.Height())
	}
	if r, _ := must(t, blend(4000)).Take(1, 4000); r.Height() != 1 {
		t.Errorf("height of what is left: %d", r.Height())
	}
}

func TestP24LinesAndSigns(t *testing.T) {
	for _, n := range sizes {
		s := blend(n)
		for _, r := range ropesOf(t, s) {
			lines, signs := 0, 0
			for i := range n + 1 {
				if r.Lines(i) != lines || r.Signs(i) != signs {
					t.Fatalf("ahead of %d of %d bytes: %d lines, %d signs, want %d, %d", i, n, r.Lines(i), r.Signs(i), lines, signs)
				}
				if i < n && s[i] == 10 {
					lines++
				}
				if i < n && (s[i] < 128 || s[i] > 191) {
					signs++
				}
			}
			for _, i := range outside {
				wantLines, wantSigns := lines, signs
				if i < 0 {
					wantLines, wantSigns = 0, 0
				}
				if r.Lines(i) != wantLines || r.Signs(i) != wantSigns {
					t.Fatalf("ahead of %d of %d bytes: %d lines, %d signs", i, n, r.Lines(i), r.Signs(i))
				}
			}
		}
	}
}

func TestP24Line(t *testing.T) {
	for _, s := range []string{"", "a", "\n", "a\n", "\n\n", blend(64), blend(65), blend(1000), strings.Repeat("\n", 4000), strings.Repeat("\r", 300), strings.Repeat("x", 500) + "\n"} {
		for _, r := range ropesOf(t, s) {
			k := 0
			for i := range len(s) + 1 {
				if i > 0 && s[i-1] != 10 {
					continue
				}
				if at, ok := r.Line(k); at != i || !ok {
					t.Fatalf("Line(%d) of %d bytes: %d, %v, want %d", k, len(s), at, ok, i)
				}
				k++
			}
			for _, no := range []int{math.MinInt, -2, -1, k, k + 1, 5000, math.MaxInt} {
				if at, ok := r.Line(no); at != 0 || ok {
					t.Fatalf("Line(%d) of %d bytes: %d, %v", no, len(s), at, ok)
				}
			}
		}
	}
}

func TestP25SingleBytes(t *testing.T) {
	s := blend(4000)
	for _, r := range ropesOf(t, s) {
		sound(t, r, s)
	}
	var r Rope
	for i := range 4000 {
		one := must(t, s[i:i+1])
		r, _ = Join(r, one)
		if bound := 4 + 2*bits.Len(uint(i+1)); r.Height() > bound {
			t.Fatalf("height %d of %d bytes", r.Height(), i+1)
		}
	}
	sound(t, r, s)
	for i := range 4000 {
		r, _ = r.Take(i/2%r.Len(), i/2%r.Len()+1)
		if i%97 == 0 {
			sound(t, r, r.Text())
		}
	}
	if r != (Rope{}) {
		t.Errorf("%d bytes are left", r.Len())
	}
}

// TestP25AsTexts does the same to ropes and to texts, again and again, and holds them against each other; each rope of the way must stay as it was.
func TestP25AsTexts(t *testing.T) {
	rnd := rand.New(rand.NewSource(2))
	type pair struct {
		rope Rope
		text string
	}
	for range 60 {
		l := []pair{{}}
		for range 150 {
			p := l[rnd.Intn(len(l))]
			i := rnd.Intn(len(p.text) + 1)
			k := i + rnd.Intn(len(p.text)-i+1)
			switch rnd.Intn(5) {
			case 0, 1:
				s := blend(rnd.Intn([]int{2, 10, 100, 1000}[rnd.Intn(4)]))
				if len(p.text)+len(s) > 4000 {
					continue
				}
				r, _ := p.rope.Put(i, s)
				l = append(l, pair{r, p.text[:i] + s + p.text[i:]})
			case 2:
				r, _ := p.rope.Take(i, k)
				l = append(l, pair{r, p.text[:i] + p.text[k:]})
			case 3:
				a, b, _ := p.rope.Split(i)
				l = append(l, pair{a, p.text[:i]}, pair{b, p.text[i:]})
			case 4:
				q := l[rnd.Intn(len(l))]
				if len(p.text)+len(q.text) > 4000 {
					continue
				}
				r, _ := Join(p.rope, q.rope)
				l = append(l, pair{r, p.text + q.text})
			}
		}
		for _, p := range l {
			sound(t, p.rope, p.text)
		}
	}
}

// TestP25Shares: a change of a long rope makes some new parts, and shares the rest.
func TestP25Shares(t *testing.T) {
	r := must(t, blend(3999))
	changed, _ := r.Put(2000, "x")
	taken, _ := r.Take(1000, 1001)
	ahead, _, _ := r.Split(3000)
	old := map[*part]int{}
	gather(r.top, old)
	for _, made := range []Rope{changed, taken, ahead} {
		seen := map[*part]int{}
		gather(made.top, seen)
		fresh := 0
		for p := range seen {
			if old[p] == 0 {
				fresh++
			}
		}
		if fresh > 20 || fresh == 0 {
			t.Errorf("%d new parts out of %d", fresh, len(seen))
		}
	}
}

// gather counts all parts.
func gather(p *part, m map[*part]int) {
	if p == nil {
		return
	}
	m[p]++
	gather(p.left, m)
	gather(p.right, m)
}

func TestExamples(t *testing.T) {
	r, e := must(t, "ab").Put(1, "xy")
	if e != api.OK || r.Text() != "axyb" {
		t.Errorf("Put: %q, error %d", r.Text(), e)
	}
	if s, e := r.Take(0, 2); e != api.OK || s.Text() != "yb" {
		t.Errorf("Take: %q, error %d", s.Text(), e)
	}
	r = must(t, "a\nb\n")
	if r.Lines(3) != 1 {
		t.Errorf("Lines(3): %d", r.Lines(3))
	}
	for k, want := range []int{0, 2, 4} {
		if at, ok := r.Line(k); at != want || !ok {
			t.Errorf("Line(%d): %d, %v", k, at, ok)
		}
	}
	if at, ok := r.Line(3); at != 0 || ok {
		t.Errorf("Line(3): %d, %v", at, ok)
	}
}
