package utf_test

import (
	"bytes"
	"slices"
	"testing"

	"ductus/api"
	"ductus/utf"
)

// Texts and lists, right and wrong, of which no call may keep or change anything.
var (
	someTexts = []string{"", "a\xd7\x90b", "\xff\xfe\xfd", "\xe2\x82\xac\xe2\x82", "\xf0\x9f\x98\x80z"}
	someLists = [][]int{{}, {'a', 0x5d0, 'b'}, {0x20ac, -1, 'z'}, {api.Top, 0xd800}, {0x1f600, 0, api.Bad}}
)

// P1.1, by the rules that hold everywhere: what is handed in isn't changed, its spare room neither.
func TestHandedInStays(t *testing.T) {
	for _, text := range append(slices.Clone(someTexts), string(bytes.Repeat([]byte{0xd7}, 4001))) {
		whole := []byte(text + "\xd7\x90 spare room \xff")
		was := slices.Clone(whole)
		b := whole[:len(text)]
		utf.Decode(b)
		utf.Valid(b)
		if !bytes.Equal(whole, was) {
			t.Errorf("%q was changed to % x", text, whole)
		}
	}
	for _, list := range append(slices.Clone(someLists), slices.Repeat([]int{'a'}, 4001)) {
		whole := slices.Concat(list, []int{7, -7, 7, -7, 7, -7, 7, -7, 7, -7, 7, -7})
		was := slices.Clone(whole)
		l := whole[:len(list)]
		utf.Encode(l)
		utf.Offset(l, 0)
		utf.Offset(l, len(l))
		if !slices.Equal(whole, was) {
			t.Errorf("%x was changed to %x", list, whole)
		}
	}
}

// P1.1, by the rules: what is beyond a text's end, or a list's, isn't read.
func TestSpareRoomIsNotRead(t *testing.T) {
	whole := []byte("a\xd7\x90b")
	chars, at, e := utf.Decode(whole[:2])
	if e != api.OK || !slices.Equal(chars, []int{'a', api.Bad}) || !slices.Equal(at, []int{0, 1, 2}) || utf.Valid(whole[:2]) {
		t.Errorf("%x %v %v", chars, at, e)
	}
	list := []int{'a', 'b', -1}
	if b, e := utf.Encode(list[:2]); e != api.OK || string(b) != "ab" {
		t.Errorf("%q %v", b, e)
	}
}

// P1.1, by the rules: an answer is memory of its own; neither what was handed in, nor another answer, nor a later call changes it.
func TestAnswersAreNew(t *testing.T) {
	b := []byte("a\xd7\x90b\xff")
	wantChars, wantAt := []int{'a', 0x5d0, 'b', api.Bad}, []int{0, 1, 3, 4, 5}
	chars, at, _ := utf.Decode(b)
	again, atAgain, _ := utf.Decode(b)
	spoil(again)
	spoil(atAgain)
	for i := range b {
		b[i] = 'x'
	}
	utf.Decode([]byte("zzzzzzzz"))
	if !slices.Equal(chars, wantChars) || !slices.Equal(at, wantAt) {
		t.Errorf("%x %v", chars, at)
	}
	spoil(chars)
	if !slices.Equal(at, wantAt) {
		t.Errorf("both lists share room: %v", at)
	}

	l := []int{'a', 0x5d0, 'b'}
	out, _ := utf.Encode(l)
	other, _ := utf.Encode(l)
	spoil(other)
	spoil(l)
	utf.Encode([]int{'z', 'z', 'z', 'z', 'z', 'z'})
	if string(out) != "a\xd7\x90b" {
		t.Errorf("%q", out)
	}
}

// spoil: all of a list, its spare room too, is overwritten.
func spoil[T byte | int](l []T) {
	l = l[:cap(l)]
	for i := range l {
		l[i] = 99
	}
}

// P1.1, by the rules: a call hangs on its arguments alone, whatever was called ahead of it.
func TestNothingIsKept(t *testing.T) {
	long := bytes.Repeat([]byte{'a'}, 4001)
	for _, text := range someTexts {
		for _, other := range someTexts {
			checkBytes(t, []byte(text))
			checkTooLong(t, long)
			checkBytes(t, []byte(other))
		}
	}
	for range 3 {
		checkEncode(t, someLists[1], []byte("a\xd7\x90b"))
		checkEncodeError(t, someLists[2], api.ErrArg)
		checkEncodeError(t, slices.Repeat([]int{'a'}, 4001), api.ErrText)
		checkEncode(t, someLists[4], []byte("\xf0\x9f\x98\x80\x00\xef\xbf\xbd"))
	}
}
