package float

import (
	"iter"

	"targum/api"
)

// sizes are how many binary digits the exponent and the fraction have.
type sizes struct {
	exponent int
	fraction int
}

// ones answers the number of that many binary digits, all of them 1.
func ones(count int) uint64 {
	return 1<<count - 1
}

// full is the exponent of what is no finite number.
func (s sizes) full() uint64 {
	return ones(s.exponent)
}

// leastPower is the power of 2 that the last digit of a fraction stands for, where the exponent is 0 or 1.
func (s sizes) leastPower() int {
	bias := int(ones(s.exponent - 1))
	return 1 - bias - s.fraction
}

// form is how the bits of a width are made up: of a sign, and of what has sizes.
type form struct {
	sizes
	width int
}

// forms are those of all widths, the least one first.
var forms = [3]form{
	{sizes{exponent: 5, fraction: 10}, api.Width16},
	{sizes{exponent: 8, fraction: 23}, api.Width32},
	{sizes{exponent: 11, fraction: 52}, api.Width64},
}

// widest is the form of 64, that all others can be widened to.
func widest() form {
	return forms[len(forms)-1]
}

// ascending goes through the forms, from the least width on.
func ascending() iter.Seq[form] {
	return func(yield func(form) bool) {
		for _, f := range forms {
			if !yield(f) {
				return
			}
		}
	}
}

// formOf answers the form of a width; false, if it is none.
func formOf(width int) (form, bool) {
	var found form
	ok := false
widths:
	for f := range ascending() {
		if f.width == width {
			found, ok = f, true
			break widths
		}
	}
	return found, ok
}

// split answers the sign, the exponent and the fraction of bits of this form.
func (f form) split(bits uint64) (uint64, uint64, uint64) {
	above := bits >> f.fraction
	return above >> f.exponent, above & ones(f.exponent), bits & ones(f.fraction)
}

// part is a number, and how many binary digits it takes up.
type part struct {
	number uint64
	size   int
}

// join lays parts side by side, the greatest one first.
func join(parts ...part) uint64 {
	bits := uint64(0)
	for _, p := range parts {
		bits = bits<<p.size | p.number
	}
	return bits
}

// bits answers those of a sign, an exponent and a fraction.
func (f form) bits(sign, exponent, fraction uint64) uint64 {
	return join(part{sign, 1}, part{exponent, f.exponent}, part{fraction, f.fraction})
}

// turn answers bits of one form as those of another one; false, if there are none.
func turn(bits uint64, from, to form) (uint64, bool) {
	var ok bool
	sign, exponent, fraction := from.split(bits)
	if exponent == from.full() {
		exponent = to.full()
		fraction, ok = resize(fraction, from.fraction, to.fraction)
	} else {
		exponent, fraction, ok = to.place(from.value(exponent, fraction))
	}
	if !ok {
		return 0, false
	}
	return to.bits(sign, exponent, fraction), true
}

// resize puts zeros behind a fraction, or takes them off; false, if a 1 would be taken off.
func resize(fraction uint64, from, to int) (uint64, bool) {
	// At the upper end of 64 binary digits, a fraction of either size begins at the same place.
	upper := fraction << (api.Width64 - from)
	return upper >> (api.Width64 - to), upper<<to == 0
}
