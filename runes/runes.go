// Package runes has the signs of a text as bytes (UTF-8).
package runes

// follower tells a byte that goes on with a sign from one that begins it.
func follower(c byte) bool {
	return c >= 128 && c <= 191
}

// size is how many bytes the sign n has; 0, if n is no sign.
func size(n int) int {
	switch {
	case n < 0 || n >= 1114112:
		return 0
	case n >= 55296 && n <= 57343:
		return 0
	case n < 128:
		return 1
	case n < 2048:
		return 2
	case n < 65536:
		return 3
	}
	return 4
}

// lead is what the first byte of a sign of so many bytes has beside its share of the number.
func lead(bytes int) int {
	switch bytes {
	case 2:
		return 192
	case 3:
		return 224
	case 4:
		return 240
	}
	return 0
}

// promised is how many bytes a sign has that begins with c; 0, if none does.
func promised(c byte) int {
	switch {
	case c < 128:
		return 1
	case c < 192:
		return 0
	case c < 224:
		return 2
	case c < 240:
		return 3
	case c < 248:
		return 4
	}
	return 0
}

// reader reads the signs of a text one behind the other.
type reader struct {
	text string
	at   int
}

// sign goes behind the next sign, and tells whether there was one.
func (r *reader) sign() bool {
	_, k := First(r.text[r.at:])
	r.at += k
	return k > 0
}

// Whole tells whether a text is signs, one behind the other.
func Whole(s string) bool {
	r := reader{text: s}
	for r.sign() {
	}
	return r.at == len(s)
}

// First is the number of the sign with which a text begins, and how many bytes that has; -1 and 0, if it doesn't begin with one.
func First(s string) (int, int) {
	if s == "" {
		return -1, 0
	}
	k := promised(s[0])
	if k == 0 || k > len(s) {
		return -1, 0
	}
	n := int(s[0]) - lead(k)
	for i := range k - 1 {
		c := s[1+i]
		if !follower(c) {
			return -1, 0
		}
		n = n*64 + int(c) - 128
	}
	// The number must need just so many bytes: this refuses what is written too long, and numbers that are no signs.
	if size(n) != k {
		return -1, 0
	}
	return n, k
}

// Bytes is the sign n as bytes; nothing, if n is no sign.
func Bytes(n int) string {
	k := size(n)
	if k == 0 {
		return ""
	}
	b := make([]byte, k)
	for i := range k - 1 {
		b[k-1-i] = byte(128 + n%64)
		n /= 64
	}
	b[0] = byte(lead(k) + n)
	return string(b)
}

// Edge tells whether the place i is the text's end, or one within it at which no follower stands.
func Edge(s string, i int) bool {
	if i < 0 || i > len(s) {
		return false
	}
	return i == len(s) || !follower(s[i])
}

// Next is the least edge above i; 0, if i is below 0; the length, if i is the length or more.
func Next(s string, i int) int {
	if i < 0 {
		return 0
	}
	if i >= len(s) {
		return len(s)
	}
	for k := range len(s) - i - 1 {
		if Edge(s, i+1+k) {
			return i + 1 + k
		}
	}
	return len(s)
}

// Back is the greatest edge below i; 0, if i is 0 or less, or there is none; the length, if i is above it.
func Back(s string, i int) int {
	if i > len(s) {
		return len(s)
	}
	for k := range i {
		if Edge(s, i-1-k) {
			return i - 1 - k
		}
	}
	return 0
}

// Count is how many bytes of a text are no followers.
func Count(s string) int {
	n := 0
	for i := range len(s) {
		if !follower(s[i]) {
			n++
		}
	}
	return n
}

// Cut is the greatest edge ahead of which at most n bytes are no followers; 0, if n is below 0.
func Cut(s string, n int) int {
	if n < 0 {
		return 0
	}
	left := n
	for i := range len(s) {
		if follower(s[i]) {
			continue
		}
		if left == 0 {
			return i
		}
		left--
	}
	return len(s)
}
