package order_test

import (
	"math"
	"slices"
	"strconv"
	"strings"
	"testing"

	"ductus/api"
	"ductus/order"
	"ductus/sample"
)

var (
	read, write = sample.Read, sample.Write
	// Characters, and numbers, as they are told.
	show, numbers = sample.Text, sample.Numbers
)

// Numbers that are below 0, and those that are above all levels; some would be small in 8, 16 or 32 bits.
var (
	below = []int{-1, -2, -3, -126, -127, -128, -129, -256, -1 << 31, -1<<32 + 1, -1 << 32, math.MinInt + 1, math.MinInt}
	great = []int{127, 128, 129, 130, 255, 256, 257, 1 << 16, 1<<16 + 1, 1<<31 - 1, 1 << 31, 1 << 32, 1<<32 + 1, 1<<32 + 2, 1 << 62, math.MaxInt - 1, math.MaxInt}
)

// Layer 3's characters that are mirrored, two by two, as its chapter tells them.
const mirrorWords = "28 29 5B 5D 7B 7D 2329 232A 3008 3009 300A 300B 300C 300D 300E 300F 3010 3011 3C 3E AB BB 2264 2265 226A 226B"

// mirrored: each of these, in order.
func mirrored() []int {
	var out []int
	for item := range strings.FieldsSeq(mirrorWords) {
		c, err := strconv.ParseInt(item, 16, 0)
		if err != nil {
			panic(err)
		}
		out = append(out, int(c))
	}
	return out
}

// counted: as a level counts.
func counted(level int) int {
	switch {
	case level < 0:
		return 0
	case level > 127:
		return 127
	}
	return level
}

// orderOf: by the chapter's words one by one, as places stand column by column: from the greatest level down to 1, each row of that level or above turned round.
func orderOf(levels []int) []int {
	columns := after(len(levels))
	most := 0
	for _, level := range levels {
		most = max(most, counted(level))
	}
	for least := most; least >= 1; least-- {
		var next, row []int
		for _, i := range columns {
			if counted(levels[i]) >= least {
				row = append([]int{i}, row...)
			} else {
				next = append(append(next, row...), i)
				row = nil
			}
		}
		columns = append(next, row...)
	}
	return columns
}

// seenOf: by the chapter's words.
func seenOf(chars, levels []int) []int {
	if len(chars) != len(levels) {
		return nil
	}
	var out []int
	for _, i := range orderOf(levels) {
		out = append(out, asSeen(chars[i], levels[i]))
	}
	return out
}

// asSeen: a character, or its other one, where the level is odd.
func asSeen(c, level int) int {
	all := mirrored()
	if k := slices.Index(all, c); k >= 0 && level&1 == 1 {
		return all[k^1]
	}
	return c
}

// onlyOf: by the chapter's words.
func onlyOf(l []int, keep []bool) []int {
	var out []int
	for _, n := range l {
		for i, stays := range keep {
			if i == n && stays {
				out = append(out, n)
			}
		}
	}
	return out
}

// onceEach: is each number from 0 to below how many there are in l once?
func onceEach(l []int) bool {
	for n := range l {
		many := 0
		for _, i := range l {
			if i == n {
				many++
			}
		}
		if many != 1 {
			return false
		}
	}
	return true
}

// backOf: for each place the column that it stands in.
func backOf(l []int) []int {
	var out []int
	for i := range l {
		out = append(out, slices.Index(l, i))
	}
	return out
}

// after: so many numbers from 0 on, rising.
func after(n int) []int {
	out := make([]int, n)
	for i := range out {
		out[i] = i
	}
	return out
}

// turned: a list, the other way round.
func turned(l []int) []int {
	out := slices.Clone(l)
	slices.Reverse(out)
	return out
}

func check(t *testing.T, levels, want []int) {
	t.Helper()
	if got := order.Of(levels); !slices.Equal(got, want) {
		t.Errorf("Of %s: %s, not %s", numbers(levels), numbers(got), numbers(want))
	}
}

// checkOracle: an order is as the chapter's words say.
func checkOracle(t *testing.T, levels []int) {
	t.Helper()
	check(t, levels, orderOf(levels))
	if t.Failed() {
		t.FailNow()
	}
}

// checkBack: what Right and Back answer; ErrArg and no list, where want is none and l isn't empty.
func checkBack(t *testing.T, l []int, right bool, want []int) {
	t.Helper()
	if got := order.Right(l); got != right {
		t.Errorf("Right of %s: %t", numbers(l), got)
	}
	e := api.OK
	if !right {
		e = api.ErrArg
	}
	got, told := order.Back(l)
	if told != e {
		t.Errorf("Back of %s: error %d, not %d", numbers(l), told, e)
	}
	if !slices.Equal(got, want) {
		t.Errorf("Back of %s: %s, not %s", numbers(l), numbers(got), numbers(want))
	}
}

// checkWords: Right and Back are as the chapter's words say.
func checkWords(t *testing.T, l []int) {
	t.Helper()
	if onceEach(l) {
		checkBack(t, l, true, backOf(l))
	} else {
		checkBack(t, l, false, nil)
	}
}

func checkSeen(t *testing.T, chars, levels, want []int) {
	t.Helper()
	if got := order.Seen(chars, levels); !slices.Equal(got, want) {
		t.Errorf("Seen of %s, of levels %s: %s, not %s", show(chars), numbers(levels), show(got), show(want))
	}
}

func checkOnly(t *testing.T, l []int, keep []bool, want []int) {
	t.Helper()
	if got := order.Only(l, keep); !slices.Equal(got, want) {
		t.Errorf("Only of %s, that keep %t: %s, not %s", numbers(l), keep, numbers(got), numbers(want))
	}
}

// flags: true for each 1.
func flags(text string) []bool {
	out := make([]bool, len(text))
	for i, sign := range []byte(text) {
		out[i] = sign == '1'
	}
	return out
}
