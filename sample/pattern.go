package sample

import (
	"iter"
	"strconv"
	"strings"
)

// Chars: the characters of a text, as it is.
func Chars(text string) []int {
	var out []int
	for _, c := range text {
		out = append(out, int(c))
	}
	return out
}

// Quoted: a pattern's characters as a text in quotes; what stands for none in it is its number in < and >.
func Quoted(l []int) string {
	var out strings.Builder
	for _, c := range l {
		if 0 <= c && c < 0x7f && c != '<' && c != '>' {
			out.WriteRune(rune(c))
		} else {
			out.WriteString("<" + strconv.FormatInt(int64(c), 16) + ">")
		}
	}
	return strconv.Quote(out.String())
}

// Patterns: so many patterns, by a rule, always the same ones, each of up to so many pieces one behind the other.
func Patterns(pieces []string, many, most int) iter.Seq[[]int] {
	var numbers []int
	for i := range pieces {
		numbers = append(numbers, i)
	}
	return func(yield func([]int) bool) {
		for l := range MixedOf(numbers, many, most) {
			var out []int
			for _, i := range l {
				out = append(out, Chars(pieces[i])...)
			}
			if !yield(out) {
				return
			}
		}
	}
}
