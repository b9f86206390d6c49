package utf_test

import (
	"bytes"
	"math"
	"slices"
	"testing"

	"ductus/api"
	"ductus/utf"
)

// Characters on both sides of each limit of one to four bytes, of what is no character, and of all; and how many bytes they have.
var edges = []struct{ c, size int }{
	{0, 1}, {1, 1}, {'a', 1}, {0x7f, 1},
	{0x80, 2}, {0x5d0, 2}, {0x7ff, 2},
	{0x800, 3}, {0x20ac, 3}, {0xd7ff, 3}, {0xe000, 3}, {0xfffc, 3}, {api.Bad, 3}, {0xfffe, 3}, {0xffff, 3},
	{0x10000, 4}, {0x1f600, 4}, {0xfffff, 4}, {0x100000, 4}, {api.Top - 1, 4}, {api.Top, 4},
}

// Numbers that are no characters; some would be one in 8, 16, 21 or 32 bits.
var none = []int{
	-1, -2, -'a', -0x80, -0x800, -0x10000, -api.Top,
	0xd800, 0xd801, 0xdbff, 0xdc00, 0xdffe, 0xdfff,
	api.Top + 1, api.Top + 2, 0x1fffff, 0x200000, 0x200000 + 'a', 0x7fffffff,
	1 << 31, 1<<31 + 'a', 1 << 32, 1<<32 + 'a', -1<<32 + 'a', 1<<32 + 0x10ffff, 1<<62 + 'a',
	math.MaxInt32, math.MinInt32, math.MaxInt, math.MinInt,
}

// P1.1: Right and Size at the edges.
func TestRightAndSizeAtEdges(t *testing.T) {
	for _, x := range edges {
		if !utf.Right(x.c) || utf.Size(x.c) != x.size {
			t.Errorf("%x: right %v, size %d", x.c, utf.Right(x.c), utf.Size(x.c))
		}
	}
	for _, c := range none {
		if utf.Right(c) || utf.Size(c) != 0 {
			t.Errorf("%x: right %v, size %d", c, utf.Right(c), utf.Size(c))
		}
	}
}

// P1.1: Right and Size of each character, and of many that are none.
func TestRightAndSizeOfAll(t *testing.T) {
	for c := -0x110000; c <= 2*0x110000; c++ {
		size := 0
		if isCharacter(c) {
			size = len(bytesOf(c))
		}
		if utf.Right(c) != isCharacter(c) || utf.Size(c) != size {
			t.Fatalf("%x: right %v, size %d", c, utf.Right(c), utf.Size(c))
		}
	}
}

// checkBytes: Decode and Valid of bytes that aren't too many, held against the oracle.
func checkBytes(t *testing.T, b []byte) {
	t.Helper()
	wantChars, wantAt, wantValid := readAll(b)
	chars, at, e := utf.Decode(b)
	if e != api.OK || !slices.Equal(chars, wantChars) || !slices.Equal(at, wantAt) {
		t.Fatalf("Decode of % x: %x %v %v; not %x %v", b, chars, at, e, wantChars, wantAt)
	}
	if utf.Valid(b) != wantValid {
		t.Fatalf("Valid of % x: not %v", b, wantValid)
	}
}

// P1.1: Decode and Valid, told in full: they hang on no oracle.
func TestDecodeAndValid(t *testing.T) {
	for _, x := range []struct {
		text  string
		chars []int
		at    []int
		valid bool
	}{
		{"", nil, []int{0}, true},
		{"a", []int{'a'}, []int{0, 1}, true},
		{"\x00\x7f", []int{0, 0x7f}, []int{0, 1, 2}, true},
		{"a\xd7\x90b", []int{'a', 0x5d0, 'b'}, []int{0, 1, 3, 4}, true},
		{"\xc2\x80\xdf\xbf", []int{0x80, 0x7ff}, []int{0, 2, 4}, true},
		{"\xe0\xa0\x80\xef\xbf\xbf", []int{0x800, 0xffff}, []int{0, 3, 6}, true},
		{"\xed\x9f\xbf\xee\x80\x80", []int{0xd7ff, 0xe000}, []int{0, 3, 6}, true},
		{"\xf0\x90\x80\x80\xf4\x8f\xbf\xbf", []int{0x10000, 0x10ffff}, []int{0, 4, 8}, true},
		// Bad's own bytes are a character's.
		{"\xef\xbf\xbd", []int{0xfffd}, []int{0, 3}, true},
		{"\xef\xbf\xbd\xff", []int{0xfffd, 0xfffd}, []int{0, 3, 4}, false},
		// The chapter's example.
		{"\xc3\x28", []int{0xfffd, '('}, []int{0, 1, 2}, false},
		// Bytes that begin no character.
		{"\x80", []int{0xfffd}, []int{0, 1}, false},
		{"a\xbfb", []int{'a', 0xfffd, 'b'}, []int{0, 1, 2, 3}, false},
		{"\xff\xfe", []int{0xfffd, 0xfffd}, []int{0, 1, 2}, false},
		{"\xf8\x88\x80\x80\x80", []int{0xfffd, 0xfffd, 0xfffd, 0xfffd, 0xfffd}, []int{0, 1, 2, 3, 4, 5}, false},
		// More bytes than the character has.
		{"\xc0\x80", []int{0xfffd, 0xfffd}, []int{0, 1, 2}, false},
		{"\xc1\xbf", []int{0xfffd, 0xfffd}, []int{0, 1, 2}, false},
		{"\xe0\x9f\xbf", []int{0xfffd, 0xfffd, 0xfffd}, []int{0, 1, 2, 3}, false},
		{"\xf0\x8f\xbf\xbf", []int{0xfffd, 0xfffd, 0xfffd, 0xfffd}, []int{0, 1, 2, 3, 4}, false},
		// D800 and DFFF, and what is beyond Top.
		{"\xed\xa0\x80", []int{0xfffd, 0xfffd, 0xfffd}, []int{0, 1, 2, 3}, false},
		{"\xed\xbf\xbf", []int{0xfffd, 0xfffd, 0xfffd}, []int{0, 1, 2, 3}, false},
		{"\xf4\x90\x80\x80", []int{0xfffd, 0xfffd, 0xfffd, 0xfffd}, []int{0, 1, 2, 3, 4}, false},
		// A character that is cut off, at the end and ahead of another one.
		{"a\xd7", []int{'a', 0xfffd}, []int{0, 1, 2}, false},
		{"\xe2\x82", []int{0xfffd, 0xfffd}, []int{0, 1, 2}, false},
		{"\xf0\x9f\x98", []int{0xfffd, 0xfffd, 0xfffd}, []int{0, 1, 2, 3}, false},
		{"\xe2\x82\xd7\x90", []int{0xfffd, 0xfffd, 0x5d0}, []int{0, 1, 2, 4}, false},
		{"\xf0\x9f\x98a", []int{0xfffd, 0xfffd, 0xfffd, 'a'}, []int{0, 1, 2, 3, 4}, false},
	} {
		chars, at, e := utf.Decode([]byte(x.text))
		if e != api.OK || !slices.Equal(chars, x.chars) || !slices.Equal(at, x.at) {
			t.Errorf("Decode of %q: %x %v %v", x.text, chars, at, e)
		}
		if utf.Valid([]byte(x.text)) != x.valid {
			t.Errorf("Valid of %q: not %v", x.text, x.valid)
		}
	}
	if chars, at, e := utf.Decode(nil); len(chars) != 0 || !slices.Equal(at, []int{0}) || e != api.OK || !utf.Valid(nil) {
		t.Errorf("nothing at all: %x %v %v", chars, at, e)
	}
}

// P1.1: Decode and Valid of all texts of up to two bytes.
func TestDecodeShortTexts(t *testing.T) {
	for i := range 0x100 {
		checkBytes(t, []byte{byte(i)})
		for j := range 0x100 {
			checkBytes(t, []byte{byte(i), byte(j)})
		}
	}
}

// P1.1: Decode and Valid of texts of three to five bytes, made of those at whose sides something changes.
func TestDecodeLongerTexts(t *testing.T) {
	sides := []byte("\x00\x28\x7f\x80\x8f\x90\x9f\xa0\xbf\xc0\xc1\xc2\xdf\xe0\xe1\xec\xed\xee\xef\xf0\xf1\xf3\xf4\xf5\xff")
	for _, a := range sides {
		for _, b := range sides {
			for _, c := range sides {
				checkBytes(t, []byte{a, b, c})
				for _, d := range sides {
					checkBytes(t, []byte{a, b, c, d})
				}
			}
		}
	}
	lot := numbers(5)
	for range 20000 {
		b := make([]byte, 5)
		for i := range b {
			b[i] = sides[lot.below(len(sides))]
		}
		checkBytes(t, b)
	}
}

// P1.1: Decode and Valid of 4000 bytes, and of one more: it is bytes that count, not characters.
func TestDecodeLimit(t *testing.T) {
	for _, part := range []string{"a", "\x80", "\xd7\x90", "\xd7a", "\xf0\x9f\x98\x80", "\xf0\x9f\x98a", "\xed\xa0\x80a"} {
		b := bytes.Repeat([]byte(part), 4000/len(part))
		checkBytes(t, b[:3999])
		checkBytes(t, b)
		for _, more := range [][]byte{append(slices.Clone(b), 'a'), append(slices.Clone(b), 0xff), append([]byte{'a'}, b...), append(slices.Clone(b), b...)} {
			checkTooLong(t, more)
		}
	}
	checkBytes(t, append(bytes.Repeat([]byte{'a'}, 3999), 0xd7))
	checkBytes(t, append(bytes.Repeat([]byte{'a'}, 3997), "\xe2\x82\xac"...))
	checkTooLong(t, bytes.Repeat([]byte{'a'}, 1<<20))
	checkTooLong(t, bytes.Repeat([]byte{0xff}, 1<<20))
}

func checkTooLong(t *testing.T, b []byte) {
	t.Helper()
	chars, at, e := utf.Decode(b)
	if e != api.ErrText || len(chars) != 0 || len(at) != 0 {
		t.Errorf("Decode of %d bytes: %d characters, %d places, %v", len(b), len(chars), len(at), e)
	}
	if utf.Valid(b) {
		t.Errorf("Valid of %d bytes", len(b))
	}
}

// checkEncode: Encode of characters, whose bytes must be want.
func checkEncode(t *testing.T, l []int, want []byte) {
	t.Helper()
	b, e := utf.Encode(l)
	if e != api.OK || !bytes.Equal(b, want) {
		t.Fatalf("Encode of %x: % x %v; not % x", l, b, e, want)
	}
}

// P1.1: Encode, told in full, and of each character.
func TestEncode(t *testing.T) {
	checkEncode(t, nil, nil)
	checkEncode(t, []int{}, nil)
	checkEncode(t, []int{'a', 0x5d0, 'b'}, []byte("a\xd7\x90b"))
	checkEncode(t, []int{0, 0x7f}, []byte("\x00\x7f"))
	checkEncode(t, []int{0x80, 0x7ff}, []byte("\xc2\x80\xdf\xbf"))
	checkEncode(t, []int{0x800, 0xffff}, []byte("\xe0\xa0\x80\xef\xbf\xbf"))
	checkEncode(t, []int{0xd7ff, 0xe000}, []byte("\xed\x9f\xbf\xee\x80\x80"))
	checkEncode(t, []int{0xfffd}, []byte("\xef\xbf\xbd"))
	checkEncode(t, []int{0x10000, 0x10ffff}, []byte("\xf0\x90\x80\x80\xf4\x8f\xbf\xbf"))
	for c := range 0x110000 {
		if isCharacter(c) {
			checkEncode(t, []int{c}, bytesOf(c))
		}
	}
}

func checkEncodeError(t *testing.T, l []int, want api.Errno) {
	t.Helper()
	if b, e := utf.Encode(l); e != want || len(b) != 0 {
		t.Errorf("Encode of %d characters: %d bytes, %v; not %v", len(l), len(b), int(e), int(want))
	}
}

// P1.1: Encode of what is no character, wherever it stands, and however much stands beside it.
func TestEncodeNoCharacter(t *testing.T) {
	much := slices.Repeat([]int{'a'}, 4000)
	tooMuch := slices.Repeat([]int{'a'}, 4001)
	for _, c := range none {
		checkEncodeError(t, []int{c}, api.ErrArg)
		checkEncodeError(t, []int{c, 'a', 'b'}, api.ErrArg)
		checkEncodeError(t, []int{'a', c, 'b'}, api.ErrArg)
		checkEncodeError(t, []int{'a', 'b', c}, api.ErrArg)
		for _, l := range [][]int{much, tooMuch} {
			checkEncodeError(t, slices.Concat([]int{c}, l), api.ErrArg)
			checkEncodeError(t, slices.Concat(l, []int{c}), api.ErrArg)
			checkEncodeError(t, slices.Concat(l, []int{c}, l), api.ErrArg)
		}
	}
}

// fill: a character as often as it has room in n bytes, and one of one byte for the rest.
func fill(c, size, n int) []int {
	return slices.Concat(slices.Repeat([]int{c}, n/size), slices.Repeat([]int{'z'}, n%size))
}

// P1.1: Encode of 4000 bytes, and of one more, of characters of each size.
func TestEncodeLimit(t *testing.T) {
	for _, x := range edges {
		for _, y := range edges {
			last := []int{y.c}
			for _, n := range []int{3999, 4000} {
				l := slices.Concat(fill(x.c, x.size, n-y.size), last)
				checkEncode(t, l, writeAll(l))
			}
			checkEncodeError(t, slices.Concat(fill(x.c, x.size, 4001-y.size), last), api.ErrText)
			checkEncodeError(t, slices.Concat(last, fill(x.c, x.size, 4001-y.size)), api.ErrText)
			checkEncodeError(t, slices.Concat(fill(x.c, x.size, 4000), last), api.ErrText)
		}
	}
	checkEncodeError(t, slices.Repeat([]int{0x20ac}, 1334), api.ErrText)
	checkEncodeError(t, slices.Repeat([]int{'a'}, 1<<20), api.ErrText)
	checkEncodeError(t, slices.Repeat([]int{api.Top}, 1<<20), api.ErrText)
}

// P1.1: Offset within its list, and outside of it.
func TestOffset(t *testing.T) {
	room := []int{0, 2, 5, 9, 11}
	for _, x := range []struct {
		at      []int
		n, want int
	}{
		{[]int{0, 2, 5}, 0, 0}, {[]int{0, 2, 5}, 1, 2}, {[]int{0, 2, 5}, 2, 5},
		{[]int{0, 2, 5}, 3, -1}, {[]int{0, 2, 5}, 4, -1}, {[]int{0, 2, 5}, -1, -1}, {[]int{0, 2, 5}, -3, -1},
		{[]int{0, 2, 5}, math.MaxInt, -1}, {[]int{0, 2, 5}, math.MinInt, -1},
		{[]int{0, 2, 5}, 1 << 32, -1}, {[]int{0, 2, 5}, -1 << 32, -1}, {[]int{0, 2, 5}, 1<<32 + 1, -1},
		{nil, 0, -1}, {nil, -1, -1}, {nil, 1, -1}, {[]int{}, 0, -1},
		{[]int{7}, 0, 7}, {[]int{7}, 1, -1},
		// Any list: it need not be one that Decode told.
		{[]int{9, -4, 3, math.MinInt}, 1, -4}, {[]int{9, -4, 3, math.MinInt}, 3, math.MinInt}, {[]int{-1, 6}, 0, -1}, {[]int{5000, 1 << 40}, 1, 1 << 40},
		// What is beyond a list's end isn't of it, though there is room.
		{room[:2], 1, 2}, {room[:2], 2, -1}, {room[:2], 4, -1}, {room[:0], 0, -1}, {room[3:], 0, 9}, {room[3:], 2, -1},
	} {
		if got := utf.Offset(x.at, x.n); got != x.want {
			t.Errorf("Offset of %v, %d: %d, not %d", x.at, x.n, got, x.want)
		}
	}
	chars, at, _ := utf.Decode([]byte("a\xd7\x90\xff\xe2\x82\xacb"))
	for n, want := range []int{0, 1, 3, 4, 7, 8} {
		if utf.Offset(at, n) != want {
			t.Errorf("Offset of character %d: %d, not %d", n, utf.Offset(at, n), want)
		}
	}
	if n := len(chars) + 1; utf.Offset(at, n) != -1 {
		t.Errorf("Offset of character %d: %d", n, utf.Offset(at, n))
	}
}
