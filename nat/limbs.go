package nat

import (
	"cmp"
	"slices"

	"targum/api"
)

// A limb holds nine decimal digits: two limbs and a carry add up within 32 binary digits, their product and more within 64.
const (
	limbDigits = 9
	limbBase   = 1_000_000_000
	maxLimbs   = (api.MaxDigits + limbDigits - 1) / limbDigits
)

// limbs are a natural's digits to the base limbBase, the least one first, none of them 0 at the end (0 has none).
type limbs []uint32

// trim takes off what is 0 at the end, and the room behind, so that nothing can be put into it.
func trim(x limbs) limbs {
	n := len(x)
	for n > 0 && x[n-1] == 0 {
		n--
	}
	return x[:n:n]
}

func compare(x, y limbs) int {
	if len(x) != len(y) {
		return cmp.Compare(len(x), len(y))
	}
	for i, limb := range slices.Backward(x) {
		if limb != y[i] {
			return cmp.Compare(limb, y[i])
		}
	}
	return 0
}

// limbAt answers 0 past the end.
func limbAt(x limbs, i int) uint32 {
	if i < len(x) {
		return x[i]
	}
	return 0
}

func add(x, y limbs) limbs {
	sum := make(limbs, max(len(x), len(y))+1)
	copy(sum, x)
	carry := uint32(0)
	for i := range sum {
		total := sum[i] + limbAt(y, i) + carry
		sum[i] = total % limbBase
		carry = total / limbBase
	}
	return trim(sum)
}

// sub takes y from x, which is not less.
func sub(x, y limbs) limbs {
	difference := make(limbs, len(x))
	copy(difference, x)
	borrow := uint32(0)
	for i := range difference {
		less := limbAt(y, i) + borrow
		borrow = 0
		if difference[i] < less {
			difference[i] += limbBase
			borrow = 1
		}
		difference[i] -= less
	}
	return trim(difference)
}

func mul(x, y limbs) limbs {
	product := make(limbs, len(x)+len(y))
rows:
	for i, factor := range x {
		if factor == 0 {
			continue rows
		}
		end := i + len(y) + 1
		row := product[i:end:end]
		carry := uint64(0)
		for j, limb := range y {
			total := uint64(factor)*uint64(limb) + uint64(row[j]) + carry
			row[j] = uint32(total % limbBase)
			carry = total / limbBase
		}
		// No row ahead has reached this limb.
		row[len(y)] = uint32(carry)
	}
	return trim(product)
}

// scale answers x times factor, and more.
func scale(x limbs, factor uint32, more uint32) limbs {
	out := make(limbs, 0, len(x)+2)
	carry := uint64(more)
	for _, limb := range x {
		total := uint64(limb)*uint64(factor) + carry
		out = append(out, uint32(total%limbBase))
		carry = total / limbBase
	}
	for carry > 0 {
		out = append(out, uint32(carry%limbBase))
		carry /= limbBase
	}
	return trim(out)
}

// divide answers the quotient and the rest; by is not 0.
func divide(x limbs, by uint32) (limbs, uint32) {
	quotient := make(limbs, len(x))
	rest := uint64(0)
	for i, limb := range slices.Backward(x) {
		total := rest*limbBase + uint64(limb)
		quotient[i] = uint32(total / uint64(by))
		rest = total % uint64(by)
	}
	return trim(quotient), uint32(rest)
}
