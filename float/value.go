package float

import (
	"math/bits"
	"strings"

	"targum/api"
	"targum/dec"
	"targum/nat"
)

// byteSize is how many binary digits a byte has.
const byteSize = 8

// value is an odd number times 2 to the power twos, or 0 (and twos 0): what has the same value is the same.
type value struct {
	odd  uint64
	twos int
}

// reduced answers the value of n times 2 to the power twos.
func reduced(n uint64, twos int) value {
	if n == 0 {
		return value{}
	}
	even := bits.TrailingZeros64(n)
	return value{odd: n >> even, twos: twos + even}
}

// value answers that of a finite number, without its sign.
func (f form) value(exponent, fraction uint64) value {
	if exponent == 0 {
		return reduced(fraction, f.leastPower())
	}
	return reduced(1<<f.fraction|fraction, f.leastPower()+int(exponent)-1)
}

// place answers the exponent and the fraction of a value; false, if the form has none.
func (f form) place(v value) (uint64, uint64, bool) {
	if v.odd == 0 {
		return 0, 0, true
	}
	length := bits.Len64(v.odd)
	shift := v.twos - f.leastPower()
	// One digit stands ahead of the fraction, unless it would have to be a 0: then the exponent is 0.
	exponent := shift + length - f.fraction
	if shift < 0 || length > f.fraction+1 || exponent >= int(f.full()) {
		return 0, 0, false
	}
	if exponent <= 0 {
		return 0, v.odd << shift, true
	}
	return uint64(exponent), v.odd << (f.fraction + 1 - length) & ones(f.fraction), true
}

// decimal answers that of a value; ErrDec, if it is not right.
func (v value) decimal(neg bool) (api.Dec, api.Errno) {
	base, times, exp := uint32(2), v.twos, 0
	if v.twos < 0 {
		// A half is five tenths.
		base, times, exp = 5, -v.twos, v.twos
	}
	// Beyond nat's greatest power there is no right decimal: an odd number of 53 binary digits has at most 22 fives, so with more than 400 twos there are more than 100 digits ahead of the zeros; and more than 400 digits behind the point are too many.
	power, e := nat.Power(base, times)
	if e != api.OK {
		return api.Dec{}, api.ErrDec
	}
	// 280 digits times 16 of them are not too long.
	digits, _ := nat.Mul(nat.Of(v.odd), power)
	return dec.Make(neg, digits, exp)
}

// valueOf answers the value of a right decimal, without its sign; false, if it is no number of 64 binary digits times a power of 2.
func valueOf(d api.Dec) (value, bool) {
	whole, ok := timesFives(d.Digits, d.Exp)
	if !ok {
		return value{}, false
	}
	all, _ := nat.Bytes(whole)
	upper := strings.TrimRight(all, "\x00")
	if len(upper)*byteSize > api.Width64 {
		return value{}, false
	}
	n := uint64(0)
	for i := range len(upper) {
		n = n<<byteSize | uint64(upper[i])
	}
	return reduced(n, d.Exp+(len(all)-len(upper))*byteSize), true
}

// timesFives answers a natural times 5 to the power exp; false, if that is no natural.
func timesFives(natural string, exp int) (string, bool) {
	if exp >= 0 {
		// 100 digits of a right decimal times 70 of them are not too long.
		power, _ := nat.Power(5, exp)
		product, _ := nat.Mul(natural, power)
		return product, true
	}
	for range -exp {
		quotient, rest, _ := nat.Div(natural, 5)
		if rest != 0 {
			return "", false
		}
		natural = quotient
	}
	return natural, true
}
