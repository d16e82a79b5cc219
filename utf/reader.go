package utf

import (
	"errors"
	"iter"
	"strconv"
	"unicode/utf8"
)

// What a reader meets: errEnd is the mark behind the last part, the others are wrong.
var (
	errEnd   = errors.New("the quotation ends")
	errUtf   = errors.New("a character that is none")
	errQuote = errors.New("no quotation")
)

// unitDigits is how many digits a character's number has.
const unitDigits = 4

// left is what of a text is not read yet.
type left struct{ s string }

// character takes a whole character off.
func (l *left) character() (rune, error) {
	c, size := utf8.DecodeRuneInString(l.s)
	switch {
	case size == 0:
		return 0, errQuote
	case c == utf8.RuneError && size == 1:
		return 0, errUtf
	}
	l.s = l.s[size:]
	return c, nil
}

// letter takes what stands behind an escape off, by its byte: behind an escape all that is wrong makes a wrong part, bytes that are in no character too.
func (l *left) letter() (byte, error) {
	if l.s == "" {
		return 0, errQuote
	}
	b := l.s[0]
	l.s = l.s[1:]
	return b, nil
}

// unit takes a character's number off.
func (l *left) unit() (uint16, error) {
	if len(l.s) < unitDigits {
		return 0, errQuote
	}
	n, err := strconv.ParseUint(l.s[:unitDigits], 16, 16)
	if err != nil {
		return 0, errQuote
	}
	l.s = l.s[unitDigits:]
	return uint16(n), nil
}

// reader reads a quotation off what is left.
type reader struct {
	left
	characters map[byte]rune
}

// quotation takes a whole quotation off, and answers its text.
func (r *reader) quotation() (string, error) {
	c, err := r.character()
	if err != nil {
		return "", err
	}
	if c != mark {
		return "", errQuote
	}
	var out []byte
parts:
	for c, err := range r.parts() {
		switch {
		case errors.Is(err, errEnd):
			break parts
		case err != nil:
			return "", err
		}
		out = utf8.AppendRune(out, c)
	}
	return string(out), nil
}

// parts goes through the characters that parts stand for, up to the one that is none, which comes with its error.
func (r *reader) parts() iter.Seq2[rune, error] {
	return func(yield func(rune, error) bool) {
		for {
			c, err := r.part()
			if !yield(c, err) || err != nil {
				return
			}
		}
	}
}

// part takes a part off, or the mark that ends them.
func (r *reader) part() (rune, error) {
	c, err := r.character()
	switch {
	case err != nil:
		return 0, err
	case c == mark:
		return 0, errEnd
	case c == escape:
		return r.escaped()
	case c < firstPlain:
		return 0, errQuote
	}
	return c, nil
}

// escaped takes off what stands behind an escape.
func (r *reader) escaped() (rune, error) {
	letter, err := r.letter()
	if err != nil {
		return 0, err
	}
	if letter == 'u' {
		return r.numbered()
	}
	c, ok := r.characters[letter]
	if !ok {
		return 0, errQuote
	}
	return c, nil
}

// numbered takes a character's number off, and the second one, where the first is but a half.
func (r *reader) numbered() (rune, error) {
	first, err := r.unit()
	if err != nil {
		return 0, err
	}
	units := []uint16{first}
	switch {
	case isHigh(first):
		second, err := r.second()
		if err != nil {
			return 0, err
		}
		units = append(units, second)
		fallthrough
	default:
		return join(units...)
	}
}

// second takes the escape and the number of a second half off.
func (r *reader) second() (uint16, error) {
	for _, want := range []byte{escape, 'u'} {
		got, err := r.letter()
		if err != nil {
			return 0, err
		}
		if got != want {
			return 0, errQuote
		}
	}
	return r.unit()
}

// join answers the character of one number, or of two halves.
func join(units ...uint16) (rune, error) {
	first := units[0]
	if len(units) > 1 {
		c, ok := Pair(first, units[1])
		if !ok {
			return 0, errQuote
		}
		return c, nil
	}
	if isHigh(first) || isLow(first) {
		return 0, errQuote
	}
	return rune(first), nil
}
