// Package nat is layer 1: see shared/doc/01-nat.md.
package nat

import (
	"slices"
	"strconv"

	"targum/api"
)

// byteBase is the base of a natural's bytes.
const byteBase = 1 << 8

// Right tells whether a text is a natural.
func Right(s string) bool {
	_, ok := read(s)
	return ok
}

// Compare answers -1, 0 or 1, as a is less than b, the same, or greater.
func Compare(a string, b string) (int, api.Errno) {
	x, ok := readAll(a, b)
	if !ok {
		return 0, api.ErrNat
	}
	return compare(x[0], x[1]), api.OK
}

// Add answers the sum.
func Add(a string, b string) (string, api.Errno) {
	x, ok := readAll(a, b)
	if !ok {
		return "", api.ErrNat
	}
	return tell(add(x[0], x[1]))
}

// Sub answers the difference; there is none below 0.
func Sub(a string, b string) (string, api.Errno) {
	x, ok := readAll(a, b)
	if !ok || compare(x[0], x[1]) < 0 {
		return "", api.ErrNat
	}
	return tell(sub(x[0], x[1]))
}

// Mul answers the product.
func Mul(a string, b string) (string, api.Errno) {
	x, ok := readAll(a, b)
	if !ok {
		return "", api.ErrNat
	}
	return tell(mul(x[0], x[1]))
}

// Div answers the quotient and the rest.
func Div(a string, by uint32) (string, uint32, api.Errno) {
	x, ok := read(a)
	if !ok || by == 0 {
		return "", 0, api.ErrNat
	}
	quotient, rest := divide(x, by)
	s, e := tell(quotient)
	return s, rest, e
}

// Power answers base to the power exp.
func Power(base uint32, exp int) (string, api.Errno) {
	if exp < 0 || exp > api.MaxPower {
		return "", api.ErrNat
	}
	x := limbs{1}
	for range exp {
		x = scale(x, base, 0)
		// Past this length it can only grow, so it is too long already.
		if len(x) > maxLimbs {
			break
		}
	}
	return tell(x)
}

// Bytes answers a natural's digits to the base 256, the greatest one first.
func Bytes(a string) (string, api.Errno) {
	x, ok := read(a)
	if !ok {
		return "", api.ErrNat
	}
	var out []byte
	for len(x) > 0 {
		var rest uint32
		x, rest = divide(x, byteBase)
		out = append(out, byte(rest))
	}
	slices.Reverse(out)
	return string(out), api.OK
}

// OfBytes answers the natural whose bytes these are.
func OfBytes(b string) (string, api.Errno) {
	if b != "" && b[0] == 0 {
		return "", api.ErrNat
	}
	var x limbs
	for i := range len(b) {
		x = scale(x, byteBase, uint32(b[i]))
		// A text of bytes may be very long: the rest of it would change nothing.
		if len(x) > maxLimbs {
			break
		}
	}
	return tell(x)
}

// Of answers the natural of a number.
func Of(n uint64) string {
	return strconv.FormatUint(n, 10)
}

// To answers the number of a natural, if it has at most 64 binary digits.
func To(a string) (uint64, bool) {
	if !Right(a) {
		return 0, false
	}
	n, err := strconv.ParseUint(a, 10, 64)
	if err != nil {
		return 0, false
	}
	return n, true
}
