package path

import (
	"iter"
	"strconv"
	"strings"

	"targum/api"
	"targum/utf"
)

// noPlace is the index of a step that is a key.
const noPlace = -1

// mark stands ahead of each step of a code.
const mark = "/"

// placeStep answers the step to a place of an array.
func placeStep(place int) api.Step {
	return api.Step{Index: place}
}

// keyStep answers the step to what a key of a map has.
func keyStep(key string) api.Step {
	return api.Step{Index: noPlace, Key: key}
}

// isWrong tells whether a step is neither a place nor a key.
func isWrong(step api.Step) bool {
	if step.Index >= 0 {
		return step != placeStep(step.Index)
	}
	return step != keyStep(step.Key) || len(step.Key) > api.MaxText || !utf.Right(step.Key)
}

// codeOf answers the code of a right step.
func codeOf(step api.Step) string {
	if step.Index != noPlace {
		return mark + strconv.Itoa(step.Index)
	}
	// The key of a right step is a text: there is no error to be told.
	quoted, _ := utf.Quote(step.Key)
	return mark + quoted
}

// decoded goes through the steps of a code, each with whether it is right; behind one that is not there is none.
func decoded(s string) iter.Seq2[api.Step, bool] {
	return func(yield func(api.Step, bool) bool) {
		for left := s; left != ""; {
			step, behind, ok := firstOf(left)
			if !yield(step, ok) {
				return
			}
			left = behind
		}
	}
}

// firstOf answers the step that a code begins with, and what is behind it; false, if there is none.
func firstOf(code string) (api.Step, string, bool) {
	s, ok := strings.CutPrefix(code, mark)
	if !ok {
		return api.Step{}, "", false
	}
	if strings.HasPrefix(s, `"`) {
		return keyOf(s)
	}
	return placeOf(s)
}

// keyOf answers the key whose plain quotation a text begins with, and what is behind it; false, if there is none.
func keyOf(s string) (api.Step, string, bool) {
	key, behind, e := utf.Unquote(s)
	if e != api.OK {
		return api.Step{}, "", false
	}
	step := keyStep(key)
	if isWrong(step) || mark+s != codeOf(step)+behind {
		return api.Step{}, "", false
	}
	return step, behind, true
}

// placeOf answers the place whose digits a text begins with, up to a mark, and what is behind it; false, if there is none.
func placeOf(s string) (api.Step, string, bool) {
	digits, _, _ := strings.Cut(s, mark)
	place, ok := number(digits)
	if !ok {
		return api.Step{}, "", false
	}
	return placeStep(place), s[len(digits):], true
}

// number answers the number of digits; false, if they are not how it is written.
func number(digits string) (int, bool) {
	n := 0
	for _, r := range digits {
		if r < '0' || r > '9' {
			return 0, false
		}
		n = n*10 + int(r-'0')
	}
	// No digits, noughts ahead, and so many digits that the number wraps round are not how it is written.
	return n, strconv.Itoa(n) == digits
}
