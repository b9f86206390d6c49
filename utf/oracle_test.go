package utf_test

import (
	"bytes"

	"ductus/api"
)

// What the chapter's words say, written anew by arithmetic alone: the calls are held against it.

func isCharacter(c int) bool {
	if c < 0 || c > 0x10ffff {
		return false
	}
	return c < 0xd800 || c > 0xdfff
}

// bytesOf: a character's bytes, as the chapter's Words build them.
func bytesOf(c int) []byte {
	six := func(shift int) byte { return byte(0x80 + c>>shift&0x3f) }
	switch {
	case c < 0x80:
		return []byte{byte(c)}
	case c < 0x800:
		return []byte{byte(0xc0 + c>>6), six(0)}
	case c < 0x10000:
		return []byte{byte(0xe0 + c>>12), six(6), six(0)}
	}
	return []byte{byte(0xf0 + c>>18), six(12), six(6), six(0)}
}

// readOne: the character whose bytes begin b, and how many these are; else Bad, and one.
func readOne(b []byte) (char, size int) {
	for n := 1; n <= min(4, len(b)); n++ {
		c := int(b[0])
		if n > 1 {
			c &= 0x7f >> n
		}
		for _, x := range b[1:n] {
			c = c<<6 | int(x)&0x3f
		}
		if isCharacter(c) && bytes.Equal(bytesOf(c), b[:n]) {
			return c, n
		}
	}
	return api.Bad, 1
}

// readAll: what Decode and Valid must tell of bytes that aren't too many.
func readAll(b []byte) (chars, at []int, valid bool) {
	valid = true
	i := 0
	for i < len(b) {
		c, n := readOne(b[i:])
		// The byte alone that is read as Bad isn't Bad's own three.
		valid = valid && n == len(bytesOf(c))
		chars, at = append(chars, c), append(at, i)
		i += n
	}
	return chars, append(at, i), valid
}

// writeAll: the characters' bytes, one behind the other.
func writeAll(l []int) []byte {
	var b []byte
	for _, c := range l {
		b = append(b, bytesOf(c)...)
	}
	return b
}

// numbers: whole numbers from a short rule, the same in each run.
type numbers uint64

func (s *numbers) below(n int) int {
	*s = *s*6364136223846793005 + 1442695040888963407
	return int(uint64(*s>>33) % uint64(n))
}

// character: one of any size, each size as often as the others.
func (s *numbers) character() int {
	for {
		c := s.below([]int{0x80, 0x800, 0x10000, 0x110000}[s.below(4)])
		if isCharacter(c) {
			return c
		}
	}
}

func (s *numbers) characters(n int) []int {
	var l []int
	for range n {
		l = append(l, s.character())
	}
	return l
}

// broken: a text of n bytes, most of them of characters, some put out of their places.
func (s *numbers) broken(n int) []byte {
	var b []byte
	for len(b) < n {
		b = append(b, bytesOf(s.character())...)
		if s.below(4) == 0 {
			b = append(b, byte(s.below(0x100)))
		}
		if s.below(4) == 0 {
			b = b[:len(b)-1]
		}
	}
	return b[:n]
}
