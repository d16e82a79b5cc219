package dec

import (
	"iter"
	"slices"

	"targum/api"
)

// maxPowerDigits is how many digits a written exponent may have, noughts ahead too.
const maxPowerDigits = 4

// left is what of a text is not read yet.
type left struct{ s string }

// sign takes the first character off, if it is one of the signs, and answers it; else 0.
func (l *left) sign(signs ...rune) rune {
	if l.s == "" {
		return 0
	}
	// All signs are characters of one byte, and none of another character's bytes is one.
	c := rune(l.s[0])
	if !slices.Contains(signs, c) {
		return 0
	}
	l.s = l.s[1:]
	return c
}

// run takes characters off as long as asking them is answered with true.
func (l *left) run(ask func(rune) bool) string {
	end := len(l.s)
characters:
	for i, c := range l.s {
		if !ask(c) {
			end = i
			break characters
		}
	}
	taken := l.s[:end]
	l.s = l.s[end:]
	return taken
}

// anyDigit asks for a digit.
func anyDigit() func(rune) bool {
	return func(c rune) bool { return c >= '0' && c <= '9' }
}

// wholeDigit asks for a digit, one by one from the first on: behind a first 0 the number has none more ahead of its point.
func wholeDigit() func(rune) bool {
	isDigit, begun, closed := anyDigit(), false, false
	return func(c rune) bool {
		if closed || !isDigit(c) {
			return false
		}
		closed = !begun && c == '0'
		begun = true
		return true
	}
}

// reader reads a written number off what is left, and has its parts as they are written.
type reader struct {
	left
	neg      bool
	whole    string
	fraction string
	less     bool
	power    string
}

// number takes the longest written number off; false, if there is none.
func (r *reader) number() bool {
	r.neg = r.sign('-') != 0
	r.whole = r.run(wholeDigit())
	if r.whole == "" {
		return false
	}
	r.readFraction()
	r.readPower()
	return true
}

// readFraction takes a point and digits off; nothing, if no digit follows.
func (r *reader) readFraction() {
	ahead := r.left
	if r.sign('.') != 0 {
		r.fraction = r.run(anyDigit())
	}
	if r.fraction == "" {
		r.left = ahead
	}
}

// readPower takes an exponent off; nothing, if no digit follows.
func (r *reader) readPower() {
	ahead := r.left
	if r.sign('e', 'E') != 0 {
		r.less = r.sign('+', '-') == '-'
		r.power = r.run(anyDigit())
	}
	if r.power == "" {
		r.left = ahead
	}
}

// short tells whether the parts are within the limits of what is written.
func (r *reader) short() bool {
	return len(r.whole)+len(r.fraction) <= api.MaxDigits && len(r.power) <= maxPowerDigits
}

// digits answers those ahead of the point and those behind it, together.
func (r *reader) digits() string {
	return r.whole + r.fraction
}

// exponent answers that of the digits together; the parts are short.
func (r *reader) exponent() int {
	power := 0
	for d := range values(r.power) {
		power = power*10 + d
	}
	if r.less {
		power = -power
	}
	return power - len(r.fraction)
}

// values goes through what digits are worth, each alone.
func values(digits string) iter.Seq[int] {
	return func(yield func(int) bool) {
		for _, c := range digits {
			if !yield(int(c - '0')) {
				return
			}
		}
	}
}
