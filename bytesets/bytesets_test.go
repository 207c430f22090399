package bytesets

import (
	"math"
	"math/rand"
	"slices"
	"strings"
	"testing"

	"pleacher/api"
)

// plain is a set as the document words it: which bytes it has.
type plain [256]bool

// plainOf is a set's bytes, read by the bits of its words.
func plainOf(s api.Set) plain {
	var p plain
	for c := range p {
		word := s[c/64]
		for range c % 64 {
			word /= 2
		}
		p[c] = word%2 == 1
	}
	return p
}

// plainAll is the bytes of each set of a list.
func plainAll(l []api.Set) []plain {
	var all []plain
	for _, s := range l {
		all = append(all, plainOf(s))
	}
	return all
}

// plainSet is the set of some bytes, made by the bits of its words.
func plainSet(p plain) api.Set {
	var s api.Set
	for c, has := range p {
		if has {
			bit := uint64(1)
			for range c % 64 {
				bit *= 2
			}
			s[c/64] += bit
		}
	}
	return s
}

// plainWhere is the set of the bytes of which f holds.
func plainWhere(f func(c int) bool) api.Set {
	var p plain
	for c := range p {
		p[c] = f(c)
	}
	return plainSet(p)
}

// plainBytes is a set's bytes, rising.
func plainBytes(s api.Set) []byte {
	var b []byte
	for c, has := range plainOf(s) {
		if has {
			b = append(b, byte(c))
		}
	}
	return b
}

// plainAlike tells whether each set has both bytes or neither.
func plainAlike(l []plain, c, d int) bool {
	for _, p := range l {
		if p[c] != p[d] {
			return false
		}
	}
	return true
}

// plainClasses is each byte's class and how many there are, as the document words it: a byte that is alike to one below it is of that one's class, any other is the least byte of the next class.
func plainClasses(l []api.Set) ([256]byte, int) {
	all := plainAll(l)
	var class [256]byte
	n := 0
	for c := range class {
		d := 0
		for d < c && !plainAlike(all, c, d) {
			d++
		}
		if d < c {
			class[c] = class[d]
			continue
		}
		class[c] = byte(n)
		n++
	}
	return class, n
}

// edges are the first and the last byte of each word.
var edges = []byte{0, 63, 64, 127, 128, 191, 192, 255}

// bit is a word with one bit.
func bit(k int) uint64 {
	return 1 << k
}

// fewSets are sets of all shapes: none, all, one byte, all but one, words, pieces of words and across them.
func fewSets() []api.Set {
	full := uint64(math.MaxUint64)
	return []api.Set{
		{}, {full, full, full, full},
		{bit(0)}, {3: bit(63)}, {1: bit('a' - 64)}, {bit(63), bit(0)},
		{full - 1, full, full, full}, {full, full, full, full - bit(63)},
		{full}, {1: full}, {2: full}, {3: full}, {full, 0, full}, {0, full, 0, full},
		{bit(0) + bit(63), bit(0) + bit(63), bit(0) + bit(63), bit(0) + bit(63)},
		{0x5555555555555555, 0x5555555555555555, 0x5555555555555555, 0x5555555555555555},
		plainWhere(func(c int) bool { return c >= 'a' && c <= 'z' }),
		plainWhere(func(c int) bool { return c >= 60 && c <= 200 }),
		plainWhere(func(c int) bool { return c%3 == 1 }),
	}
}

// manySets are those, each edge byte alone, and some without any rule.
func manySets() []api.Set {
	l := fewSets()
	for _, c := range edges {
		l = append(l, plainWhere(func(d int) bool { return d == int(c) }))
	}
	some := rand.New(rand.NewSource(5))
	for range 60 {
		l = append(l, randomSet(some))
	}
	return l
}

// randomSet is a set with few, some or nearly all bytes.
func randomSet(some *rand.Rand) api.Set {
	most := 1 + some.Intn(256)
	return plainWhere(func(int) bool { return some.Intn(256) < most })
}

// manyLists are lists of sets: none, each alone, all of two, some of three, and long ones.
func manyLists() [][]api.Set {
	few, many := fewSets(), manySets()
	lists := [][]api.Set{nil, {}, many}
	for _, a := range many {
		lists = append(lists, []api.Set{a}, []api.Set{a, a})
	}
	for _, a := range few {
		for _, b := range few {
			lists = append(lists, []api.Set{a, b}, []api.Set{a, b, a}, []api.Set{few[16], a, b})
		}
	}
	some := rand.New(rand.NewSource(55))
	for n := range 30 {
		var l []api.Set
		for range n {
			l = append(l, randomSet(some))
		}
		lists = append(lists, l)
	}
	return lists
}

// singles are so many sets of one byte each, from 0 on.
func singles(n int) []api.Set {
	var l []api.Set
	for c := range n {
		l = append(l, plainWhere(func(d int) bool { return d == c }))
	}
	return l
}

func TestP51Of(t *testing.T) {
	for c := range 256 {
		want := plainWhere(func(d int) bool { return d == c })
		for _, b := range [][]byte{{byte(c)}, {byte(c), byte(c)}, {byte(c), byte(c), byte(c)}} {
			if s := Of(b...); s != want {
				t.Errorf("Of(%v): %x, want %x", b, s, want)
			}
		}
		for d := range 256 {
			want := plainWhere(func(e int) bool { return e == c || e == d })
			if s := Of(byte(c), byte(d)); s != want {
				t.Fatalf("Of(%d, %d): %x, want %x", c, d, s, want)
			}
		}
	}
	for _, s := range manySets() {
		b := plainBytes(s)
		back := slices.Clone(b)
		slices.Reverse(back)
		for _, l := range [][]byte{b, back, slices.Concat(b, back, b)} {
			if got := Of(l...); got != s {
				t.Errorf("Of(%v): %x, want %x", l, got, s)
			}
		}
	}
}

// TestP51Words: which bits of which words, written out.
func TestP51Words(t *testing.T) {
	full := uint64(math.MaxUint64)
	for _, c := range []struct {
		name      string
		got, want api.Set
	}{
		{"of none", Of(), api.Set{}},
		{"of an empty list", Of([]byte{}...), api.Set{}},
		{"of 0", Of(0), api.Set{1, 0, 0, 0}},
		{"of 1", Of(1), api.Set{2, 0, 0, 0}},
		{"of 63", Of(63), api.Set{1 << 63, 0, 0, 0}},
		{"of 64", Of(64), api.Set{0, 1, 0, 0}},
		{"of a", Of('a'), api.Set{0, 1 << 33, 0, 0}},
		{"of 127", Of(127), api.Set{0, 1 << 63, 0, 0}},
		{"of 128", Of(128), api.Set{0, 0, 1, 0}},
		{"of 191", Of(191), api.Set{0, 0, 1 << 63, 0}},
		{"of 192", Of(192), api.Set{0, 0, 0, 1}},
		{"of 255", Of(255), api.Set{0, 0, 0, 1 << 63}},
		{"of all edges", Of(edges...), api.Set{1<<63 + 1, 1<<63 + 1, 1<<63 + 1, 1<<63 + 1}},
		{"of the same ones", Of(255, 0, 255, 0, 0), api.Set{1, 0, 0, 1 << 63}},
		{"a range of a word", Range(64, 127), api.Set{0, full, 0, 0}},
		{"a range over an edge", Range(127, 128), api.Set{0, 1 << 63, 1, 0}},
		{"a range of all", Range(0, 255), api.Set{full, full, full, full}},
		{"a range of 0", Range(0, 0), api.Set{1, 0, 0, 0}},
		{"a range of 255", Range(255, 255), api.Set{0, 0, 0, 1 << 63}},
		{"a range that goes back", Range(255, 0), api.Set{}},
		{"a range that goes one back", Range(64, 63), api.Set{}},
		{"all", All(), api.Set{full, full, full, full}},
	} {
		if c.got != c.want {
			t.Errorf("%s: %x, want %x", c.name, c.got, c.want)
		}
	}
}

// TestP51Range: all ranges that there are.
func TestP51Range(t *testing.T) {
	for lo := range 256 {
		for hi := range 256 {
			want := plainWhere(func(c int) bool { return lo <= c && c <= hi })
			if s := Range(byte(lo), byte(hi)); s != want {
				t.Fatalf("Range(%d, %d): %x, want %x", lo, hi, s, want)
			}
		}
	}
}

func TestP51All(t *testing.T) {
	if want := plainWhere(func(int) bool { return true }); All() != want {
		t.Errorf("All: %x, want %x", All(), want)
	}
}

func TestP52HasLenBytesFirst(t *testing.T) {
	for _, s := range manySets() {
		for c, want := range plainOf(s) {
			if Has(s, byte(c)) != want {
				t.Errorf("Has(%x, %d): %v", s, c, !want)
			}
		}
		want := plainBytes(s)
		if Len(s) != len(want) {
			t.Errorf("Len(%x): %d, want %d", s, Len(s), len(want))
		}
		if b := Bytes(s); !slices.Equal(b, want) {
			t.Errorf("Bytes(%x): %v, want %v", s, b, want)
		}
		c, ok := First(s)
		if ok != (len(want) > 0) || ok && c != want[0] || !ok && c != 0 {
			t.Errorf("First(%x): %d, %v", s, c, ok)
		}
	}
}

// TestP52OneByte: each byte alone is the first one, and the only one; all others behind it don't come first.
func TestP52OneByte(t *testing.T) {
	for c := range 256 {
		s := plainWhere(func(d int) bool { return d == c })
		if Len(s) != 1 || !slices.Equal(Bytes(s), []byte{byte(c)}) {
			t.Errorf("the set of %d: Len %d, Bytes %v", c, Len(s), Bytes(s))
		}
		if f, ok := First(s); f != byte(c) || !ok {
			t.Errorf("First of the set of %d: %d, %v", c, f, ok)
		}
		behind := plainWhere(func(d int) bool { return d >= c })
		if f, ok := First(behind); f != byte(c) || !ok || Len(behind) != 256-c {
			t.Errorf("the set from %d on: First %d, %v, Len %d", c, f, ok, Len(behind))
		}
	}
}

func TestP52Cases(t *testing.T) {
	if c, ok := First(api.Set{}); c != 0 || ok {
		t.Errorf("First of the empty set: %d, %v", c, ok)
	}
	if c, ok := First(api.Set{1}); c != 0 || !ok {
		t.Errorf("First of the set of 0: %d, %v", c, ok)
	}
	if Len(api.Set{}) != 0 || len(Bytes(api.Set{})) != 0 {
		t.Errorf("the empty set: Len %d, Bytes %v", Len(api.Set{}), Bytes(api.Set{}))
	}
	all := Bytes(plainWhere(func(int) bool { return true }))
	if len(all) != 256 || !slices.IsSorted(all) || all[0] != 0 || all[255] != 255 {
		t.Errorf("Bytes of all: %v", all)
	}
	s := Of(192, 63, 255, 0, 128, 64, 191, 127)
	if !slices.Equal(Bytes(s), edges) || Len(s) != 8 {
		t.Errorf("Bytes of the edges: %v, Len %d", Bytes(s), Len(s))
	}
	for c := range 256 {
		if Has(s, byte(c)) != slices.Contains(edges, byte(c)) {
			t.Errorf("Has of the edges, %d", c)
		}
		if Has(api.Set{}, byte(c)) || !Has(All(), byte(c)) {
			t.Errorf("Has of none, or of all, %d", c)
		}
	}
}

func TestP53Or(t *testing.T) {
	for _, l := range manyLists() {
		all := plainAll(l)
		want := plainWhere(func(c int) bool {
			return slices.ContainsFunc(all, func(p plain) bool { return p[c] })
		})
		if s := Or(l...); s != want {
			t.Fatalf("Or(%x): %x, want %x", l, s, want)
		}
	}
	if s := Or(); s != (api.Set{}) {
		t.Errorf("Or of no set: %x", s)
	}
	if l := singles(256); Or(l...) != All() || Or(l[7:200]...) != Range(7, 199) {
		t.Errorf("Or of single bytes: %x, %x", Or(l...), Or(l[7:200]...))
	}
}

func TestP53AndNotLess(t *testing.T) {
	for _, a := range manySets() {
		p := plainOf(a)
		if s, want := Not(a), plainWhere(func(c int) bool { return !p[c] }); s != want {
			t.Errorf("Not(%x): %x, want %x", a, s, want)
		}
		for _, b := range manySets() {
			q := plainOf(b)
			if s, want := And(a, b), plainWhere(func(c int) bool { return p[c] && q[c] }); s != want {
				t.Fatalf("And(%x, %x): %x, want %x", a, b, s, want)
			}
			if s, want := Less(a, b), plainWhere(func(c int) bool { return p[c] && !q[c] }); s != want {
				t.Fatalf("Less(%x, %x): %x, want %x", a, b, s, want)
			}
		}
	}
}

func TestP53Cases(t *testing.T) {
	low, high := Range('a', 'f'), Range('d', 'z')
	for _, c := range []struct {
		name      string
		got, want api.Set
	}{
		{"or of one", Or(low), low},
		{"or of one twice", Or(low, low), low},
		{"or of two", Or(low, high), Range('a', 'z')},
		{"or of three", Or(Of(0), Of(255), Of(128)), Of(0, 128, 255)},
		{"or with none", Or(api.Set{}, low, api.Set{}), low},
		{"or with all", Or(low, All(), high), All()},
		{"and of two", And(low, high), Range('d', 'f')},
		{"and of two apart", And(Range('a', 'c'), high), api.Set{}},
		{"and with all", And(low, All()), low},
		{"and with none", And(api.Set{}, low), api.Set{}},
		{"not of none", Not(api.Set{}), All()},
		{"not of all", Not(All()), api.Set{}},
		{"not of an end", Not(Range(128, 255)), Range(0, 127)},
		{"not of all but the edges", Not(Not(Of(edges...))), Of(edges...)},
		{"less", Less(low, high), Range('a', 'c')},
		{"less, the other way", Less(high, low), Range('g', 'z')},
		{"less itself", Less(low, low), api.Set{}},
		{"less none", Less(low, api.Set{}), low},
		{"less all", Less(low, All()), api.Set{}},
		{"all less some", Less(All(), Range(1, 254)), Of(0, 255)},
		{"none less some", Less(api.Set{}, low), api.Set{}},
	} {
		if c.got != c.want {
			t.Errorf("%s: %x, want %x", c.name, c.got, c.want)
		}
	}
}

func TestP54Classes(t *testing.T) {
	for _, l := range manyLists() {
		want, m := plainClasses(l)
		class, n := Classes(l...)
		if class != want || n != m {
			t.Fatalf("Classes(%x): %v, %d, want %v, %d", l, class, n, want, m)
		}
	}
}

func TestP54Cases(t *testing.T) {
	all := singles(256)
	var bits []api.Set
	for k := range 8 {
		bits = append(bits, plainWhere(func(c int) bool { return c>>k%2 == 1 }))
	}
	for _, c := range []struct {
		name string
		l    []api.Set
		n    int
		of   func(c int) int
	}{
		{"no set", nil, 1, func(c int) int { return 0 }},
		{"the empty one", []api.Set{{}}, 1, func(c int) int { return 0 }},
		{"all bytes", []api.Set{All()}, 1, func(c int) int { return 0 }},
		{"all and none", []api.Set{All(), {}, All()}, 1, func(c int) int { return 0 }},
		{"the byte 0", []api.Set{Of(0)}, 2, func(c int) int { return min(c, 1) }},
		{"the byte 255", []api.Set{Of(255)}, 2, func(c int) int { return c / 255 }},
		{"the upper half", []api.Set{Range(128, 255)}, 2, func(c int) int { return c / 128 }},
		{"the lower half", []api.Set{Range(0, 127)}, 2, func(c int) int { return c / 128 }},
		{"one set twice", []api.Set{Range(64, 255), Range(64, 255)}, 2, func(c int) int { return min(c/64, 1) }},
		{"a set and what it hasn't", []api.Set{Range(64, 255), Range(0, 63)}, 2, func(c int) int { return min(c/64, 1) }},
		{"words, the last one first", []api.Set{Range(192, 255), Range(128, 191), Range(64, 127)}, 4, func(c int) int { return c / 64 }},
		{"sets that overlap", []api.Set{Range(0, 191), Range(64, 255)}, 3, func(c int) int { return (c/64 + 1) / 2 }},
		{"even and odd bytes", []api.Set{plainWhere(func(c int) bool { return c%2 == 0 })}, 2, func(c int) int { return c % 2 }},
		{"all single bytes but one", all[:255], 256, func(c int) int { return c }},
		{"all single bytes", all, 256, func(c int) int { return c }},
		{"all single bytes but 0 and 1", all[2:], 255, func(c int) int { return max(c-1, 0) }},
		{"each bit", bits, 256, func(c int) int { return c }},
		{"each bit but the lowest one", bits[1:], 128, func(c int) int { return c / 2 }},
		{"each bit and all single bytes, twice", slices.Concat(bits, all, bits, all), 256, func(c int) int { return c }},
	} {
		class, n := Classes(c.l...)
		if n != c.n {
			t.Errorf("%s: %d classes, want %d", c.name, n, c.n)
		}
		for d, k := range class {
			if int(k) != c.of(d) {
				t.Errorf("%s: the class of %d: %d, want %d", c.name, d, k, c.of(d))
			}
		}
	}
}

// TestP54Order: classes hang neither on the order of the sets nor on how often one is there.
func TestP54Order(t *testing.T) {
	some := rand.New(rand.NewSource(54))
	for range 50 {
		var l []api.Set
		for range 1 + some.Intn(6) {
			l = append(l, randomSet(some))
		}
		class, n := Classes(l...)
		other := slices.Concat(l, l[:1], []api.Set{All(), {}})
		some.Shuffle(len(other), func(i, k int) { other[i], other[k] = other[k], other[i] })
		if again, m := Classes(other...); again != class || m != n {
			t.Fatalf("Classes(%x): %v, %d, want %v, %d", other, again, m, class, n)
		}
	}
}

// TestP54ManySets: as many sets as one likes may be.
func TestP54ManySets(t *testing.T) {
	some := rand.New(rand.NewSource(544))
	var l []api.Set
	for range 2000 {
		k := some.Intn(10)
		l = append(l, plainWhere(func(c int) bool { return c/25 == k }))
	}
	class, n := Classes(l...)
	if want, m := plainClasses(l); class != want || n != m || n != 11 {
		t.Errorf("%d classes, want %d", n, m)
	}
}

func TestP54Class(t *testing.T) {
	for _, l := range manyLists() {
		class, n := plainClasses(l)
		for k := -2; k < n+2; k++ {
			want := plainWhere(func(c int) bool { return int(class[c]) == k })
			if s := Class(l, k); s != want {
				t.Fatalf("Class(%x, %d): %x, want %x", l, k, s, want)
			}
		}
	}
}

// TestP54NoClass: numbers that are no class's, those too that are one's number modulo 256.
func TestP54NoClass(t *testing.T) {
	for _, l := range [][]api.Set{nil, {{}}, {Range('a', 'z')}, singles(256)} {
		_, n := plainClasses(l)
		for _, k := range []int{math.MinInt, math.MinInt + 1, math.MinInt32, -512, -257, -256, -255, -2, -1, n, n + 1, 256, 257, 511, 512, 1 << 32, math.MaxInt - 255, math.MaxInt} {
			if s := Class(l, k); s != (api.Set{}) {
				t.Errorf("Class of %d sets, %d: %x", len(l), k, s)
			}
		}
	}
	if Class(nil, 0) != All() || Class([]api.Set{}, 0) != All() || Class(nil, 1) != (api.Set{}) {
		t.Error("Class of no set")
	}
	for c, l := 0, singles(256); c < 256; c += 15 {
		if s := Class(l, c); s != Of(byte(c)) {
			t.Errorf("Class of single bytes, %d: %x", c, s)
		}
	}
}

// TestP55Classes: classes are apart, have all bytes, and come by their least bytes; each set is some of them together.
func TestP55Classes(t *testing.T) {
	for _, l := range manyLists() {
		class, n := Classes(l...)
		var classes []api.Set
		least := -1
		for k := range n {
			s := Class(l, k)
			if And(Or(classes...), s) != (api.Set{}) {
				t.Fatalf("%x: the class %d isn't apart from those ahead of it", l, k)
			}
			c, ok := First(s)
			if !ok || int(c) <= least || int(class[c]) != k {
				t.Fatalf("%x: the class %d has the least byte %d, behind %d", l, k, c, least)
			}
			least = int(c)
			classes = append(classes, s)
		}
		if Or(classes...) != All() {
			t.Fatalf("%x: classes have %x together", l, Or(classes...))
		}
		for _, x := range l {
			if s := together(classes, x); s != x {
				t.Fatalf("%x: the classes of %x are %x together", l, x, s)
			}
		}
	}
}

// together is the classes that a set has bytes of, put together.
func together(classes []api.Set, x api.Set) api.Set {
	var some []api.Set
	for _, s := range classes {
		if And(s, x) != (api.Set{}) {
			some = append(some, s)
		}
	}
	return Or(some...)
}

// TestGivenStays: lists that were given stay as they were, their spare room too.
func TestGivenStays(t *testing.T) {
	b := []byte("zab\x00a\xffspare")
	Of(b[:6]...)
	if string(b) != "zab\x00a\xffspare" {
		t.Errorf("the bytes became %q", b)
	}
	room := []api.Set{Of('z'), {}, Range('a', 'm'), All(), Of('z'), Of(1, 2), Of(3)}
	kept := slices.Clone(room)
	l := room[:5]
	Or(l...)
	Classes(l...)
	for k := -1; k < 5; k++ {
		Class(l, k)
	}
	if !slices.Equal(room, kept) {
		t.Errorf("the sets became %x", room)
	}
}

// TestSetsStay: a set that was given stays as it was.
func TestSetsStay(t *testing.T) {
	a, b := Range('a', 'f'), Of(edges...)
	x, y := a, b
	And(a, b)
	Less(a, b)
	Not(a)
	Bytes(a)
	First(a)
	if a != x || b != y {
		t.Errorf("the sets became %x, %x", a, b)
	}
}

// TestAnswerIsNew: bytes that were answered are the asker's alone.
func TestAnswerIsNew(t *testing.T) {
	s := Of('a', 'b', 'c')
	b, c := Bytes(s), Bytes(s)
	clear(b)
	_ = append(b[:1], "zzzz"...)
	if string(c) != "abc" || string(Bytes(s)) != "abc" {
		t.Errorf("another answer became %q, and %q", c, Bytes(s))
	}
}

// TestSameAgain: the same is answered to the same, however often it is asked.
func TestSameAgain(t *testing.T) {
	l := manySets()
	class, n := Classes(l...)
	for range 20 {
		if again, m := Classes(l...); again != class || m != n {
			t.Fatalf("Classes: %v, %d, then %v, %d", class, n, again, m)
		}
	}
}

func TestExamples(t *testing.T) {
	s := Of('a', 'c')
	if Len(s) != 2 || Len(Not(s)) != 254 {
		t.Errorf("Len: %d, of Not: %d", Len(s), Len(Not(s)))
	}
	class, n := Classes(Range('a', 'c'), Of('b'))
	if n != 3 {
		t.Errorf("%d classes, want 3", n)
	}
	for c, k := range class {
		if want := 1 + strings.IndexByte("ab", byte(c)); c != 'c' && int(k) != want {
			t.Errorf("the class of %d: %d, want %d", c, k, want)
		}
	}
	if class['c'] != 1 {
		t.Errorf("the class of c: %d, want 1", class['c'])
	}
}
