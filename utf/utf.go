// Package utf is layer 1: characters of bytes, and where they stand. See shared/doc/01-utf.md.
package utf

import (
	"unicode/utf8"

	"ductus/api"
)

// What lies between these two (both with it) is a half of a pair in another encoding, and no character.
const (
	firstHalf = 0xd800
	lastHalf  = 0xdfff
)

// Right: is it a character?
func Right(c int) bool {
	return 0 <= c && c <= api.Top && (c < firstHalf || lastHalf < c)
}

// Decode: characters, and where they begin; at the end of at, how many bytes there are.
func Decode(b []byte) (chars, at []int, e api.Errno) {
	if len(b) > api.MaxText {
		return nil, nil, api.ErrText
	}
	// A range over a text takes one byte that begins no character as FFFD, which is Bad: so no case of its own is needed.
	for i, c := range string(b) {
		chars = append(chars, int(c))
		at = append(at, i)
	}
	return chars, append(at, len(b)), api.OK
}

// Encode: characters' bytes.
func Encode(l []int) ([]byte, api.Errno) {
	n := 0
	for _, c := range l {
		if !Right(c) {
			return nil, api.ErrArg
		}
		n += Size(c)
	}
	// Not within the loop: what is no character comes first, wherever it stands.
	if n > api.MaxText {
		return nil, api.ErrText
	}
	b := make([]byte, 0, n)
	for _, c := range l {
		b = utf8.AppendRune(b, rune(c))
	}
	return b, api.OK
}

// Size: how many bytes a character has; 0 of none.
func Size(c int) int {
	// A rune holds less than an int: without this a great number could become a character.
	if !Right(c) {
		return 0
	}
	return utf8.RuneLen(rune(c))
}

// Valid: are these just the bytes of characters, and not too many?
func Valid(b []byte) bool {
	return len(b) <= api.MaxText && utf8.Valid(b)
}

// Offset: the n-th of places; -1, if there is none.
func Offset(at []int, n int) int {
	if n < 0 || n >= len(at) {
		return -1
	}
	return at[n]
}
