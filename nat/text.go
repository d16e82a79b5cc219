package nat

import (
	"iter"
	"slices"
	"strconv"
	"strings"

	"targum/api"
)

// digits goes through a text from its first byte on: how many bytes stand behind it, and its digit. What is no digit is greater than 9, for a byte below '0' wraps round.
func digits(s string) iter.Seq2[int, uint32] {
	return func(yield func(int, uint32) bool) {
		for i := range len(s) {
			if !yield(len(s)-1-i, uint32(s[i])-'0') {
				return
			}
		}
	}
}

// read answers a natural's limbs; false, if the text is no natural.
func read(s string) (limbs, bool) {
	if s == "" || len(s) > api.MaxDigits || s[0] == '0' && s != "0" {
		return nil, false
	}
	x := make(limbs, (len(s)+limbDigits-1)/limbDigits)
	right := true
walk:
	for behind, d := range digits(s) {
		if d > 9 {
			right = false
			break walk
		}
		at := behind / limbDigits
		x[at] = x[at]*10 + d
	}
	if !right {
		return nil, false
	}
	return trim(x), true
}

// readAll answers the limbs of each of the texts; false, unless all of them are naturals.
func readAll(texts ...string) ([]limbs, bool) {
	all := make([]limbs, 0, len(texts))
	for _, s := range texts {
		x, ok := read(s)
		if !ok {
			goto wrong
		}
		all = append(all, x)
	}
	return all, true
wrong:
	return nil, false
}

// tell writes limbs as a natural; ErrLong, if that has too many digits.
func tell(x limbs) (string, api.Errno) {
	if len(x) == 0 {
		return "0", api.OK
	}
	if len(x) > maxLimbs {
		return "", api.ErrLong
	}
	top := len(x) - 1
	var out strings.Builder
	for i, limb := range slices.Backward(x) {
		s := strconv.FormatUint(uint64(limb), 10)
		// All limbs but the greatest have their noughts ahead.
		if i < top {
			out.WriteString(strings.Repeat("0", limbDigits-len(s)))
		}
		out.WriteString(s)
	}
	if out.Len() > api.MaxDigits {
		return "", api.ErrLong
	}
	return out.String(), api.OK
}
