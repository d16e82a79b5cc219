package float

import (
	"math"
	"math/big"
	"math/rand"
	"strconv"
	"strings"
	"testing"

	"targum/api"
	"targum/dec"
)

// infinite are the bits of 64 of what is above all numbers.
const infinite = 0x7ff << 52

// wantWide16 answers what bits of 16 are widened to, worked out with a number of the library.
func wantWide16(bits uint64) uint64 {
	sign, e, f := bits>>15<<63, int(bits>>10&31), bits&1023
	switch e {
	case 31:
		return sign | infinite | f<<42
	case 0:
		return sign | math.Float64bits(math.Ldexp(float64(f), -24))
	}
	return sign | math.Float64bits(math.Ldexp(float64(1024+f), e-25))
}

// wantWide32 answers what bits of 32 are widened to; of no number the library makes another one, so it is not asked.
func wantWide32(bits uint64) uint64 {
	if v := math.Float32frombits(uint32(bits)); v == v {
		return math.Float64bits(float64(v))
	}
	return bits>>31<<63 | infinite | bits&(1<<23-1)<<29
}

// wantNarrow32 answers what bits of 64 are narrowed to.
func wantNarrow32(bits uint64) (uint64, bool) {
	v := math.Float64frombits(bits)
	if v != v {
		return bits>>63<<31 | 0xff<<23 | bits<<12>>41, bits&(1<<29-1) == 0
	}
	narrow := float32(v)
	return uint64(math.Float32bits(narrow)), float64(narrow) == v
}

// wide16 are all bits of 16, by what they are widened to.
func wide16() map[uint64]uint64 {
	out := map[uint64]uint64{}
	for bits := range uint64(1 << 16) {
		out[wantWide16(bits)] = bits
	}
	return out
}

// edges32 are bits of 32: of each exponent the edges of fractions, and some others.
func edges32() []uint64 {
	source := rand.New(rand.NewSource(1))
	var out []uint64
	for top := range uint64(1 << 9) {
		for i := range 24 {
			f := uint64(1) << i & (1<<23 - 1)
			for _, f := range []uint64{f, 1<<23 - 1 - f, f | 1, 1<<23 - 1, source.Uint64() & (1<<23 - 1)} {
				out = append(out, top<<23|f)
			}
		}
	}
	return out
}

// edges64 are bits of 64: of each exponent the edges of fractions, those of less widths too, and some others.
func edges64() []uint64 {
	source := rand.New(rand.NewSource(2))
	const all = 1<<52 - 1
	var out []uint64
	for top := range uint64(1 << 12) {
		for _, i := range []int{0, 1, 27, 28, 29, 30, 40, 41, 42, 43, 50, 51, 52} {
			f := uint64(1) << i & all
			for _, f := range []uint64{f, f ^ all, (f - 1) & all, (f + 1) & all, source.Uint64() & all} {
				out = append(out, top<<52|f)
			}
			out = append(out, top<<52|source.Uint64()&all>>i<<i)
		}
	}
	return out
}

// wantDec answers the decimal of a number, by the library's digits: 800 of them are more than any has.
func wantDec(bits uint64) (api.Dec, api.Errno) {
	v := math.Float64frombits(bits)
	if math.IsNaN(v) || math.IsInf(v, 0) {
		return api.Dec{}, api.ErrFloat
	}
	if v == 0 {
		return api.Dec{Digits: "0"}, api.OK
	}
	mantissa, power, _ := strings.Cut(strconv.FormatFloat(math.Abs(v), 'e', 800, 64), "e")
	digits := strings.TrimRight(strings.Replace(mantissa, ".", "", 1), "0")
	exp, _ := strconv.Atoi(power)
	exp -= len(digits) - 1
	if len(digits) > 100 || exp < -100 || exp > 100 {
		return api.Dec{}, api.ErrDec
	}
	return api.Dec{Neg: v < 0, Digits: digits, Exp: exp}, api.OK
}

// wantBits answers the bits of a right decimal, by the library's fractions.
func wantBits(d api.Dec) (uint64, bool) {
	value, _ := new(big.Rat).SetString(d.Digits + "e" + strconv.Itoa(d.Exp))
	v, exact := value.Float64()
	if !exact {
		return 0, false
	}
	if d.Neg {
		v = -v
	}
	return math.Float64bits(v), true
}

func widened(t *testing.T, bits uint64, w int, want uint64) {
	t.Helper()
	if got, e := Widen(bits, w); got != want || e != api.OK {
		t.Errorf("Widen(%x, %d): %x, %d; want %x", bits, w, got, e, want)
	}
}

func narrowed(t *testing.T, bits uint64, w int, want uint64, ok bool) {
	t.Helper()
	if !ok {
		want = 0
	}
	if got, yes := Narrow(bits, w); got != want || yes != ok {
		t.Errorf("Narrow(%x, %d): %x, %v; want %x, %v", bits, w, got, yes, want, ok)
	}
}

func decimalOf(t *testing.T, bits uint64, want api.Dec, f api.Errno) {
	t.Helper()
	if got, e := ToDec(bits); got != want || e != f {
		t.Errorf("ToDec(%x): %v, %d; want %v, %d", bits, got, e, want, f)
	}
}

func bitsOf(t *testing.T, d api.Dec, want uint64, ok bool) {
	t.Helper()
	if got, yes := OfDec(d); got != want || yes != ok {
		t.Errorf("OfDec(%v): %x, %v; want %x, %v", d, got, yes, want, ok)
	}
}

// P5.1
func TestIsWidth(t *testing.T) {
	for w := -300; w <= 300; w++ {
		if IsWidth(w) != (w == 16 || w == 32 || w == 64) {
			t.Error(w)
		}
	}
	for _, w := range []int{math.MinInt, math.MaxInt, 1<<32 + 16, -1<<32 + 64, 1 << 32} {
		if IsWidth(w) {
			t.Error(w)
		}
	}
}

// P5.1
func TestWiden(t *testing.T) {
	for _, c := range []struct {
		bits uint64
		w    int
		want uint64
	}{
		{0, 16, 0}, {0x8000, 16, 1 << 63}, {0x3c00, 16, 0x3ff0000000000000}, {0xbc00, 16, 0xbff0000000000000}, {0x3c01, 16, 0x3ff0040000000000},
		{0x0001, 16, 0x3e70000000000000}, {0x0002, 16, 0x3e80000000000000}, {0x0003, 16, 0x3e88000000000000}, {0x8001, 16, 0xbe70000000000000}, {0x03ff, 16, 0x3f0ff80000000000}, {0x0400, 16, 0x3f10000000000000}, {0x7bff, 16, 0x40effc0000000000},
		{0x7c00, 16, 0x7ff0000000000000}, {0xfc00, 16, 0xfff0000000000000}, {0x7c01, 16, 0x7ff0040000000000}, {0x7e00, 16, 0x7ff8000000000000}, {0xffff, 16, 0xfffffc0000000000},
		{0, 32, 0}, {0x80000000, 32, 1 << 63}, {0x3f800000, 32, 0x3ff0000000000000}, {0xbf800001, 32, 0xbff0000020000000},
		{0x00000001, 32, 0x36a0000000000000}, {0x00000003, 32, 0x36b8000000000000}, {0x007fffff, 32, 0x380fffffc0000000}, {0x00800000, 32, 0x3810000000000000}, {0x7f7fffff, 32, 0x47efffffe0000000},
		{0x7f800000, 32, 0x7ff0000000000000}, {0xff800000, 32, 0xfff0000000000000}, {0x7f800001, 32, 0x7ff0000020000000}, {0x7fc00000, 32, 0x7ff8000000000000}, {0xffffffff, 32, 0xffffffffe0000000},
		{0x10000, 32, 0x37a0000000000000}, {0xffff, 32, 0x379fffe000000000},
	} {
		widened(t, c.bits, c.w, c.want)
	}
	for bits := range uint64(1 << 16) {
		widened(t, bits, 16, wantWide16(bits))
	}
	for _, bits := range edges32() {
		widened(t, bits, 32, wantWide32(bits))
	}
	for _, bits := range edges64() {
		widened(t, bits, 64, bits)
	}
}

// P5.1
func TestWidenRefuses(t *testing.T) {
	for _, c := range []struct {
		bits uint64
		w    int
	}{
		{1 << 16, 16}, {1<<16 | 0x3c00, 16}, {0x3f800000, 16}, {1 << 32, 16}, {1 << 63, 16}, {math.MaxUint64, 16},
		{1 << 32, 32}, {1<<32 | 0x3f800000, 32}, {0x3ff0000000000000, 32}, {1 << 63, 32}, {math.MaxUint64, 32},
		{0, 0}, {0, 8}, {1, 15}, {1, 17}, {1, 31}, {1, 33}, {1, 63}, {1, 65}, {0, 128}, {0, -16}, {0, -64}, {0, math.MinInt}, {0, math.MaxInt}, {math.MaxUint64, 128}, {0, 1<<32 + 16},
	} {
		if got, e := Widen(c.bits, c.w); got != 0 || e != api.ErrArg {
			t.Errorf("Widen(%x, %d): %x, %d", c.bits, c.w, got, e)
		}
	}
}

// P5.1
func TestNarrow(t *testing.T) {
	wide := wide16()
	for _, bits := range edges64() {
		want16, ok16 := wide[bits]
		narrowed(t, bits, 16, want16, ok16)
		want32, ok32 := wantNarrow32(bits)
		narrowed(t, bits, 32, want32, ok32)
		narrowed(t, bits, 64, bits, true)
	}
	// Beside those that can be narrowed, by the least and by the greatest step that goes too far.
	for bits := range wide {
		for _, near := range []uint64{bits ^ 1, bits ^ 1<<41, bits ^ 1<<28, bits ^ 1<<42, bits ^ 1<<52, bits ^ 1<<62} {
			want, ok := wide[near]
			narrowed(t, near, 16, want, ok)
		}
	}
	for _, bits := range edges32() {
		for _, step := range []uint64{1, 1 << 28, 1 << 29, 1 << 52} {
			near := wantWide32(bits) ^ step
			want, ok := wantNarrow32(near)
			narrowed(t, near, 32, want, ok)
		}
	}
}

// P5.1: too small, too great, too fine; and what is no width.
func TestNarrowRefuses(t *testing.T) {
	for _, c := range []struct {
		bits uint64
		w    int
	}{
		{0x3e60000000000000, 16}, {0x3e78000000000000, 16}, {0x3f0ffc0000000000, 16}, {0x40f0000000000000, 16}, {0x40effe0000000000, 16}, {0x3ff0020000000000, 16}, {0x7ff0020000000000, 16}, {0x7ff0000000000001, 16}, {1, 16}, {0x7fefffffffffffff, 16},
		{0x3690000000000000, 32}, {0x36a8000000000000, 32}, {0x380fffffe0000000, 32}, {0x47f0000000000000, 32}, {0x47effffff0000000, 32}, {0x3ff0000010000000, 32}, {0x7ff0000010000000, 32}, {0x7ff0000000000001, 32}, {1, 32}, {0x7fefffffffffffff, 32},
		{0, 0}, {0, 8}, {0, 15}, {0, 17}, {0, 33}, {0, 63}, {0, 65}, {0, -16}, {0x3ff0000000000000, 128}, {0, math.MinInt}, {0, math.MaxInt}, {0, 1<<32 + 64},
	} {
		narrowed(t, c.bits, c.w, 0, false)
		narrowed(t, c.bits|1<<63, c.w, 0, false)
	}
}

// P5.1
func TestLeast(t *testing.T) {
	for want, all := range map[int][]uint64{
		16: {0, 1 << 63, 0x3ff0000000000000, 0x3e70000000000000, 0x40effc0000000000, infinite, 1<<63 | infinite, infinite | 1<<42, infinite | 1<<51},
		32: {0x3e60000000000000, 0x3ff0020000000000, 0x40f0000000000000, 0x36a0000000000000, 0x47efffffe0000000, infinite | 1<<41, infinite | 1<<51 | 1<<29},
		64: {1, 0x3690000000000000, 0x3ff0000010000000, 0x47f0000000000000, 0x7fefffffffffffff, infinite | 1<<28, infinite | 1, infinite | 1<<51 | 1, math.MaxUint64},
	} {
		for _, bits := range all {
			if got := Least(bits); got != want {
				t.Errorf("Least(%x): %d; want %d", bits, got, want)
			}
		}
	}
	wide := wide16()
	for _, bits := range edges64() {
		want := 64
		if _, ok := wantNarrow32(bits); ok {
			want = 32
		}
		if _, ok := wide[bits]; ok {
			want = 16
		}
		if got := Least(bits); got != want {
			t.Errorf("Least(%x): %d; want %d", bits, got, want)
		}
	}
}

// P5.1
func TestIsFinite(t *testing.T) {
	for _, bits := range edges64() {
		v := math.Float64frombits(bits)
		if IsFinite(bits) != (!math.IsNaN(v) && !math.IsInf(v, 0)) {
			t.Errorf("IsFinite(%x): %v", bits, IsFinite(bits))
		}
	}
}

// P5.2
func TestToDec(t *testing.T) {
	for _, c := range []struct {
		value float64
		want  api.Dec
	}{
		{0, api.Dec{Digits: "0"}},
		{math.Copysign(0, -1), api.Dec{Digits: "0"}},
		{1, api.Dec{Digits: "1"}},
		{-0.5, api.Dec{Neg: true, Digits: "5", Exp: -1}},
		{10, api.Dec{Digits: "1", Exp: 1}},
		{-1500, api.Dec{Neg: true, Digits: "15", Exp: 2}},
		{1e22, api.Dec{Digits: "1", Exp: 22}},
		{1 << 53, api.Dec{Digits: "9007199254740992"}},
		{1<<53 - 1, api.Dec{Digits: "9007199254740991"}},
		{1e23, api.Dec{Digits: "99999999999999991611392"}},
		{0.1, api.Dec{Digits: "1000000000000000055511151231257827021181583404541015625", Exp: -55}},
		{0x1p-100, api.Dec{Digits: "7888609052210118054117285652827862296732064351090230047702789306640625", Exp: -100}},
		{0x1p332, api.Dec{Digits: "8749002899132047697490008908470485461412677723572849745703082425639811996797503692894052708092215296"}},
	} {
		decimalOf(t, math.Float64bits(c.value), c.want, api.OK)
		bits := math.Float64bits(c.value)
		if c.want.Digits == "0" {
			bits = 0
		}
		bitsOf(t, c.want, bits, true)
	}
	for _, bits := range edges64() {
		want, e := wantDec(bits)
		decimalOf(t, bits, want, e)
	}
}

// P5.2: beyond the limits of digits and exponents, and what is no number.
func TestToDecRefuses(t *testing.T) {
	for _, v := range []float64{0x1p-101, -0x1p-101, 0x1p333, 0x1p332 * 1.5, 0x1p400, 0x1p401, 0x1p500, -0x1p1023, 0x1p-400, 0x1p-401, 0x1p-500, 0x1p-1022, 0x1p-1074, math.MaxFloat64, 0x1.8p-100, 0x1.0000000000001p-50} {
		decimalOf(t, math.Float64bits(v), api.Dec{}, api.ErrDec)
	}
	for _, bits := range []uint64{infinite, 1<<63 | infinite, infinite | 1, infinite | 1<<51, math.MaxUint64} {
		decimalOf(t, bits, api.Dec{}, api.ErrFloat)
	}
}

// P5.2: the numbers that are furthest away, for all that they have of fives: 22 zeros at the end of their digits, no more.
func TestMostFives(t *testing.T) {
	fives := uint64(1)
	for count := range 23 {
		for twos := 300; twos <= 420; twos++ {
			bits := math.Float64bits(math.Ldexp(float64(fives), twos))
			want, e := wantDec(bits)
			decimalOf(t, bits, want, e)
			if (e == api.OK) != (twos <= count+332) {
				t.Errorf("5^%d times 2^%d: %d", count, twos, e)
			}
		}
		fives *= 5
	}
}

// P5.2: of right decimals, whether a float has just that value.
func TestOfDec(t *testing.T) {
	source := rand.New(rand.NewSource(3))
	digits := []string{"1", "2", "5", "125", "3", "9007199254740991", "9007199254740993", "18014398509481982", "18014398509481986", "18446744073709551615", strings.Repeat("9", 100)}
	for power := range 332 {
		digits = append(digits, strings.TrimRight(new(big.Int).Lsh(big.NewInt(1+2*source.Int63n(1<<53)), uint(power)).String(), "0"), new(big.Int).Lsh(big.NewInt(1), uint(power)).String())
	}
	for power := range int64(143) {
		fives := new(big.Int).Exp(big.NewInt(5), big.NewInt(power), nil)
		digits = append(digits, fives.String(), new(big.Int).Mul(fives, big.NewInt(9007199254740991)).String(), new(big.Int).Mul(fives, big.NewInt(9007199254740993)).String())
	}
	both := 0
	for _, digits := range digits {
		for exp := -100; exp <= 100; exp++ {
			d := api.Dec{Neg: exp&1 == 0, Digits: digits, Exp: exp}
			if !dec.Right(d) {
				bitsOf(t, d, 0, false)
				continue
			}
			want, ok := wantBits(d)
			bitsOf(t, d, want, ok)
			if ok {
				both++
			}
		}
	}
	if both < 1000 {
		t.Error(both)
	}
}

// P5.2: what is not right, and what no float has.
func TestOfDecRefuses(t *testing.T) {
	for _, d := range []api.Dec{
		{}, {Neg: true}, {Neg: true, Digits: "0"}, {Digits: "0", Exp: 1}, {Digits: "0", Exp: -1}, {Digits: "10"}, {Digits: "01"}, {Digits: "00"}, {Digits: "-1"}, {Digits: "1.5"}, {Digits: "x"}, {Digits: "1\xff"},
		{Digits: "1", Exp: 101}, {Digits: "5", Exp: -101}, {Digits: "1", Exp: math.MaxInt}, {Digits: "5", Exp: math.MinInt}, {Digits: strings.Repeat("1", 101)}, {Digits: strings.Repeat("1", 5000)},
		{Digits: "1", Exp: -1}, {Neg: true, Digits: "3", Exp: -5}, {Digits: "9007199254740993"}, {Digits: "18446744073709551615"}, {Digits: "1", Exp: 23}, {Digits: "1", Exp: 100}, {Digits: "5", Exp: -2}, {Digits: "1", Exp: -100}, {Digits: strings.Repeat("9", 100), Exp: 100},
	} {
		bitsOf(t, d, 0, false)
	}
}

// P5.3: what is widened is narrowed again, and to no less width than that of its own least one.
func TestWidenedAndNarrowedAgain(t *testing.T) {
	again := func(bits uint64, w int) {
		wide, e := Widen(bits, w)
		if e != api.OK || Least(wide) > w {
			t.Errorf("Widen(%x, %d): %x, %d; least %d", bits, w, wide, e, Least(wide))
		}
		narrowed(t, wide, w, bits, true)
	}
	for bits := range uint64(1 << 16) {
		again(bits, 16)
	}
	for _, bits := range edges32() {
		again(bits, 32)
	}
	for _, bits := range edges64() {
		again(bits, 64)
		w := Least(bits)
		narrow, ok := Narrow(bits, w)
		if !ok {
			t.Errorf("Narrow(%x, %d)", bits, w)
		}
		widened(t, narrow, w, bits)
	}
}

// P5.3: a float's decimal is that float's alone, but for -0.
func TestDecimalsAreOneFloatsAlone(t *testing.T) {
	seen := map[api.Dec]uint64{}
	for _, bits := range append(edges64(), 0, 1<<63) {
		d, e := ToDec(bits)
		if e != api.OK {
			continue
		}
		if bits == 1<<63 {
			bits = 0
		}
		if other, ok := seen[d]; ok && other != bits {
			t.Errorf("%x and %x: %v", bits, other, d)
		}
		seen[d] = bits
		bitsOf(t, d, bits, true)
	}
	if len(seen) < 10000 {
		t.Error(len(seen))
	}
}

// FuzzFloat holds the calls against the library, at any bits, widths and decimals.
func FuzzFloat(f *testing.F) {
	for _, bits := range []uint64{0, 1, 1 << 63, 0x3c00, 0x7c01, 0x3f800000, 0x3ff0000000000000, 0x3fb999999999999a, infinite, infinite | 1<<42, math.MaxUint64} {
		f.Add(bits, 16, "15", 1)
		f.Add(bits, 64, "9007199254740993", -3)
	}
	wide := wide16()
	f.Fuzz(func(t *testing.T, bits uint64, w int, digits string, exp int) {
		widened(t, bits>>48, 16, wantWide16(bits>>48))
		widened(t, bits>>32, 32, wantWide32(bits>>32))
		widened(t, bits, 64, bits)
		want16, ok16 := wide[bits]
		narrowed(t, bits, 16, want16, ok16)
		want32, ok32 := wantNarrow32(bits)
		narrowed(t, bits, 32, want32, ok32)
		if _, e := Widen(bits, w); (e == api.OK) != (IsWidth(w) && (w == 64 || bits < 1<<w)) {
			t.Fatalf("Widen(%x, %d): %d", bits, w, e)
		}
		want, e := wantDec(bits)
		decimalOf(t, bits, want, e)
		for _, neg := range []bool{false, true} {
			d := api.Dec{Neg: neg, Digits: digits, Exp: exp}
			if !dec.Right(d) {
				bitsOf(t, d, 0, false)
				continue
			}
			want, ok := wantBits(d)
			bitsOf(t, d, want, ok)
		}
	})
}
