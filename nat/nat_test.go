package nat

import (
	"math"
	"math/big"
	"strings"
	"testing"

	"targum/api"
)

var (
	nines400 = strings.Repeat("9", api.MaxDigits)
	tens400  = "1" + strings.Repeat("0", api.MaxDigits-1)
)

// wrong: none of them is a natural.
func wrong() []string {
	return []string{
		"", " ", "00", "01", "-0", "-1", "+1", "1.0", "1e2", "1 ", " 1", "1_0", "0x1", "a", "1a", "a1",
		"/", ":", "1/", "1:", "1\x00", "\x001", "\xff", "1\xff", "٣", "12345678a123456789",
		"1" + nines400, "0" + nines400, strings.Repeat("1", 401), strings.Repeat("0", 400), nines400[1:] + "x",
	}
}

// right: naturals about the edges of limbs, of words, and of the limit.
func right() []string {
	out := []string{"0", "1", "2", "7", "9", "10", "255", "256", "257", "65535", "65536"}
	for _, n := range []uint{31, 32, 63, 64, 65, 90, 128, 1328} {
		p := new(big.Int).Lsh(big.NewInt(1), n)
		out = append(out, p.String(), new(big.Int).Sub(p, big.NewInt(1)).String(), new(big.Int).Add(p, big.NewInt(1)).String())
	}
	for _, n := range []int{8, 9, 10, 17, 18, 19, 27, 198, 199, 200, 201, 395, 396, 397, 399} {
		out = append(out, "1"+strings.Repeat("0", n), strings.Repeat("9", n), "1"+strings.Repeat("0", n-1)+"1")
	}
	return append(out, "1000000000000000001", "123456789012345678901234567890", nines400, nines400[1:]+"8", tens400)
}

func bigOf(t *testing.T, s string) *big.Int {
	t.Helper()
	n, ok := new(big.Int).SetString(s, 10)
	if !ok {
		t.Fatalf("no number: %q", s)
	}
	return n
}

// same holds an answer against the number that it must be, or the error if that is too long.
func same(t *testing.T, what string, got string, e api.Errno, want *big.Int) {
	t.Helper()
	s, we := want.String(), api.OK
	if len(s) > api.MaxDigits {
		s, we = "", api.ErrLong
	}
	if got != s || e != we {
		t.Errorf("%s: %q %d, not %q %d", what, got, e, s, we)
	}
}

func TestRight(t *testing.T) {
	for _, s := range wrong() {
		if Right(s) {
			t.Errorf("%q is no natural", s)
		}
	}
	for _, s := range right() {
		if !Right(s) {
			t.Errorf("%q is a natural", s)
		}
	}
	for c := range 256 {
		digit := c >= '0' && c <= '9'
		if s := string([]byte{'1', byte(c)}); Right(s) != digit {
			t.Errorf("%q: %v", s, !digit)
		}
		if s := string([]byte{byte(c)}); Right(s) != digit {
			t.Errorf("%q: %v", s, !digit)
		}
	}
}

func TestWrongNaturalsAreRefused(t *testing.T) {
	binary := []func(string, string) (string, api.Errno){Add, Sub, Mul}
	for _, s := range wrong() {
		for _, pair := range [][2]string{{s, "1"}, {"1", s}, {s, s}, {nines400, s}, {s, nines400}} {
			for i, f := range binary {
				if got, e := f(pair[0], pair[1]); got != "" || e != api.ErrNat {
					t.Errorf("%d of %q: %q %d", i, pair, got, e)
				}
			}
			if n, e := Compare(pair[0], pair[1]); n != 0 || e != api.ErrNat {
				t.Errorf("Compare of %q: %d %d", pair, n, e)
			}
		}
		for _, by := range []uint32{0, 1, 2} {
			if q, r, e := Div(s, by); q != "" || r != 0 || e != api.ErrNat {
				t.Errorf("Div(%q, %d): %q %d %d", s, by, q, r, e)
			}
		}
		if b, e := Bytes(s); b != "" || e != api.ErrNat {
			t.Errorf("Bytes(%q): %q %d", s, b, e)
		}
		if n, ok := To(s); n != 0 || ok {
			t.Errorf("To(%q): %d %v", s, n, ok)
		}
	}
}

func TestCompareAddSubMul(t *testing.T) {
	for _, a := range right() {
		for _, b := range right() {
			x, y := bigOf(t, a), bigOf(t, b)
			if n, e := Compare(a, b); n != x.Cmp(y) || e != api.OK {
				t.Errorf("Compare(%s, %s): %d %d", a, b, n, e)
			}
			s, e := Add(a, b)
			same(t, "Add "+a+" "+b, s, e, new(big.Int).Add(x, y))
			s, e = Mul(a, b)
			same(t, "Mul "+a+" "+b, s, e, new(big.Int).Mul(x, y))
			s, e = Sub(a, b)
			if x.Cmp(y) >= 0 {
				same(t, "Sub "+a+" "+b, s, e, new(big.Int).Sub(x, y))
			} else if s != "" || e != api.ErrNat {
				t.Errorf("Sub(%s, %s): %q %d", a, b, s, e)
			}
		}
	}
}

func TestLimitOfDigits(t *testing.T) {
	if s, e := Add(nines400, "0"); s != nines400 || e != api.OK {
		t.Error(s, e)
	}
	if s, e := Add(nines400[1:], "1"); s != tens400 || e != api.OK {
		t.Error(s, e)
	}
	if s, e := Add(nines400, "1"); s != "" || e != api.ErrLong {
		t.Error(s, e)
	}
	if s, e := Mul(nines400, "1"); s != nines400 || e != api.OK {
		t.Error(s, e)
	}
	if s, e := Mul(tens400, "9"); s != "9"+tens400[1:] || e != api.OK {
		t.Error(s, e)
	}
	if s, e := Mul(tens400, "10"); s != "" || e != api.ErrLong {
		t.Error(s, e)
	}
	if s, e := Mul(nines400, nines400); s != "" || e != api.ErrLong {
		t.Error(s, e)
	}
	if s, e := Mul(nines400, "0"); s != "0" || e != api.OK {
		t.Error(s, e)
	}
}

func TestDiv(t *testing.T) {
	for _, a := range right() {
		for _, by := range []uint32{1, 2, 3, 7, 10, 256, 999999999, 1000000000, 1000000001, 1 << 31, math.MaxUint32} {
			q, r, e := Div(a, by)
			wq, wr := new(big.Int).DivMod(bigOf(t, a), big.NewInt(int64(by)), new(big.Int))
			if q != wq.String() || int64(r) != wr.Int64() || e != api.OK {
				t.Errorf("Div(%s, %d): %s %d %d", a, by, q, r, e)
			}
		}
		if q, r, e := Div(a, 0); q != "" || r != 0 || e != api.ErrNat {
			t.Errorf("Div(%s, 0): %q %d %d", a, q, r, e)
		}
	}
}

func TestPower(t *testing.T) {
	for _, base := range []uint32{0, 1, 2, 3, 9, 10, 11, 255, 256, 999999999, 1000000000, math.MaxUint32} {
		for exp := range api.MaxPower + 1 {
			s, e := Power(base, exp)
			same(t, "Power", s, e, new(big.Int).Exp(big.NewInt(int64(base)), big.NewInt(int64(exp)), nil))
		}
		for _, exp := range []int{-1, math.MinInt, api.MaxPower + 1, math.MaxInt} {
			if s, e := Power(base, exp); s != "" || e != api.ErrNat {
				t.Errorf("Power(%d, %d): %q %d", base, exp, s, e)
			}
		}
	}
	if s, e := Power(0, 0); s != "1" || e != api.OK {
		t.Error(s, e)
	}
	if s, e := Power(10, 399); s != tens400 || e != api.OK {
		t.Error(s, e)
	}
	if s, e := Power(10, 400); s != "" || e != api.ErrLong {
		t.Error(s, e)
	}
}

func TestBytes(t *testing.T) {
	for _, a := range right() {
		want := string(bigOf(t, a).Bytes())
		if b, e := Bytes(a); b != want || e != api.OK {
			t.Errorf("Bytes(%s): %x %d, not %x", a, b, e, want)
		}
		if s, e := OfBytes(want); s != a || e != api.OK {
			t.Errorf("OfBytes(%x): %s %d, not %s", want, s, e, a)
		}
	}
	if b, e := Bytes("256"); b != "\x01\x00" || e != api.OK {
		t.Errorf("%x %d", b, e)
	}
	if b, e := Bytes("0"); b != "" || e != api.OK {
		t.Errorf("%x %d", b, e)
	}
	for c := 1; c < 256; c++ {
		if s, e := OfBytes(string([]byte{byte(c)})); s != Of(uint64(c)) || e != api.OK {
			t.Errorf("OfBytes(%x): %s %d", c, s, e)
		}
	}
}

func TestOfBytesRefuses(t *testing.T) {
	// A byte 0 ahead is told first, however long it is.
	for _, b := range []string{"\x00", "\x00\x01", "\x00\x00", strings.Repeat("\x00", 500), "\x00" + strings.Repeat("\xff", 500)} {
		if s, e := OfBytes(b); s != "" || e != api.ErrNat {
			t.Errorf("OfBytes(%x): %q %d", b, s, e)
		}
	}
	past := new(big.Int).Exp(big.NewInt(10), big.NewInt(api.MaxDigits), nil)
	for _, b := range []string{string(past.Bytes()), strings.Repeat("\xff", 167), "\x01" + strings.Repeat("\x00", 167), strings.Repeat("\xff", 1<<20)} {
		if s, e := OfBytes(b); s != "" || e != api.ErrLong {
			t.Errorf("OfBytes of %d bytes: %q %d", len(b), s, e)
		}
	}
	last := new(big.Int).Sub(past, big.NewInt(1))
	if s, e := OfBytes(string(last.Bytes())); s != nines400 || e != api.OK {
		t.Error(s, e)
	}
}

func TestOfTo(t *testing.T) {
	for _, n := range []uint64{0, 1, 9, 10, 999999999, 1000000000, math.MaxUint32, 1 << 32, 1 << 63, math.MaxUint64 - 1, math.MaxUint64} {
		s := Of(n)
		if s != new(big.Int).SetUint64(n).String() {
			t.Error(n, s)
		}
		if back, ok := To(s); back != n || !ok {
			t.Error(n, back, ok)
		}
	}
	for _, s := range right() {
		x := bigOf(t, s)
		n, ok := To(s)
		if x.IsUint64() != ok || ok && n != x.Uint64() || !ok && n != 0 {
			t.Error(s, n, ok)
		}
	}
	if n, ok := To("18446744073709551616"); n != 0 || ok {
		t.Error(n, ok)
	}
}

// What is added and taken away again, multiplied and divided again, is what it was.
func TestThereAndBack(t *testing.T) {
	for _, a := range right() {
		for _, b := range right() {
			if sum, e := Add(a, b); e == api.OK {
				if s, e := Sub(sum, b); s != a || e != api.OK {
					t.Errorf("%s + %s - %s: %s %d", a, b, b, s, e)
				}
			}
			factor, ok := To(b)
			if !ok || factor == 0 || factor > math.MaxUint32 {
				continue
			}
			if product, e := Mul(a, b); e == api.OK {
				if s, r, e := Div(product, uint32(factor)); s != a || r != 0 || e != api.OK {
					t.Errorf("%s * %s / %s: %s %d %d", a, b, b, s, r, e)
				}
			}
		}
	}
}

// Naturals and bytes are one to one.
func TestBytesOneToOne(t *testing.T) {
	seen := map[string]string{}
	for _, a := range right() {
		b, e := Bytes(a)
		if other, ok := seen[b]; e != api.OK || ok && other != a {
			t.Errorf("%s and %s: %x %d", a, other, b, e)
		}
		seen[b] = a
		if s, e := OfBytes(b); s != a || e != api.OK {
			t.Errorf("%s: back %s %d", a, s, e)
		}
	}
	for n := range 1 << 12 {
		s := Of(uint64(n))
		b, _ := Bytes(s)
		if back, e := OfBytes(b); back != s || e != api.OK {
			t.Error(n, back, e)
		}
	}
}

// FuzzNat holds the calls against numbers of the library, at any texts.
func FuzzNat(f *testing.F) {
	f.Add("123456789012345678901234567890", "1000000000", uint32(7))
	f.Add("", "01", uint32(0))
	f.Add(nines400, "9", uint32(10))
	f.Fuzz(func(t *testing.T, a, b string, by uint32) {
		if s, e := OfBytes(a); e == api.OK {
			if back, e := Bytes(s); back != a || e != api.OK {
				t.Errorf("OfBytes(%x): %s, back %x %d", a, s, back, e)
			}
		}
		sum, e := Add(a, b)
		if !Right(a) || !Right(b) {
			if sum != "" || e != api.ErrNat {
				t.Error(a, b, sum, e)
			}
			return
		}
		x, y := bigOf(t, a), bigOf(t, b)
		same(t, "Add", sum, e, new(big.Int).Add(x, y))
		product, e := Mul(a, b)
		same(t, "Mul", product, e, new(big.Int).Mul(x, y))
		if by == 0 {
			return
		}
		q, r, e := Div(a, by)
		wq, wr := new(big.Int).DivMod(x, big.NewInt(int64(by)), new(big.Int))
		if int64(r) != wr.Int64() {
			t.Error(a, by, r)
		}
		same(t, "Div", q, e, wq)
	})
}
