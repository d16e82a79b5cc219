package dec

import (
	"math"
	"math/big"
	"math/rand"
	"regexp"
	"strconv"
	"strings"
	"testing"

	"targum/api"
)

var (
	zeros400  = strings.Repeat("0", 400)
	nines100  = strings.Repeat("9", api.MaxCoef)
	number    = regexp.MustCompile(`\A(-?)(0|[1-9][0-9]*)(\.[0-9]+)?([eE][+-]?[0-9]+)?`)
	allDigits = regexp.MustCompile(`\A[0-9]+\z`)
	ten       = big.NewInt(10)
)

// wantMake answers what Make must, worked out with a number of the library.
func wantMake(neg bool, digits string, exp int) (api.Dec, bool) {
	if !allDigits.MatchString(digits) || exp < -1000 || exp > 1000 {
		return api.Dec{}, false
	}
	n, _ := new(big.Int).SetString(digits, 10)
	if len(n.String()) > 400 {
		return api.Dec{}, false
	}
	if n.Sign() == 0 {
		return api.Dec{Digits: "0"}, true
	}
	for {
		quotient, rest := new(big.Int).QuoRem(n, ten, new(big.Int))
		if rest.Sign() != 0 {
			break
		}
		n = quotient
		exp++
	}
	if len(n.String()) > 100 || exp < -100 || exp > 100 {
		return api.Dec{}, false
	}
	return api.Dec{Neg: neg, Digits: n.String(), Exp: exp}, true
}

// wantParse answers what Parse must, by a pattern for what is written.
func wantParse(s string) (api.Dec, string, bool) {
	m := number.FindStringSubmatch(s)
	if m == nil {
		return api.Dec{}, s, false
	}
	fraction := strings.TrimPrefix(m[3], ".")
	power := strings.TrimLeft(m[4], "eE")
	if len(m[2])+len(fraction) > 400 || len(strings.TrimLeft(power, "+-")) > 4 {
		return api.Dec{}, s, false
	}
	exp := 0
	if power != "" {
		exp, _ = strconv.Atoi(power)
	}
	d, ok := wantMake(m[1] != "", m[2]+fraction, exp-len(fraction))
	if !ok {
		return api.Dec{}, s, false
	}
	return d, s[len(m[0]):], true
}

// errno answers the one error that there is, unless all is well.
func errno(ok bool) api.Errno {
	if ok {
		return api.OK
	}
	return api.ErrDec
}

func made(t *testing.T, neg bool, digits string, exp int) {
	t.Helper()
	want, ok := wantMake(neg, digits, exp)
	if got, e := Make(neg, digits, exp); got != want || e != errno(ok) {
		t.Errorf("Make(%v, %q, %d): %v, %d; want %v, %v", neg, digits, exp, got, e, want, ok)
	}
}

func parsed(t *testing.T, s string) {
	t.Helper()
	want, behind, ok := wantParse(s)
	if got, rest, e := Parse(s); got != want || rest != behind || e != errno(ok) {
		t.Errorf("Parse(%q): %v, %q, %d; want %v, %q, %v", s, got, rest, e, want, behind, ok)
	}
}

// rightOnes are decimals about the edges: of each limit, of what is written without an exponent, of 64 binary digits.
func rightOnes() []api.Dec {
	out := []api.Dec{{Digits: "0"}}
	for _, digits := range []string{"1", "9", "15", "101", "123456789", "18446744073709551615", "18446744073709551616", "12345678901234567890123", nines100[1:], nines100, "1" + strings.Repeat("0", 98) + "1"} {
		for exp := -100; exp <= 100; exp++ {
			out = append(out, api.Dec{Digits: digits, Exp: exp}, api.Dec{Neg: true, Digits: digits, Exp: exp})
		}
	}
	return out
}

// wrongOnes: none of them is right.
func wrongOnes() []api.Dec {
	out := []api.Dec{
		{}, {Neg: true}, {Exp: 1},
		{Neg: true, Digits: "0"}, {Digits: "0", Exp: 1}, {Digits: "0", Exp: -1}, {Neg: true, Digits: "0", Exp: 5},
		{Digits: "10"}, {Digits: "100", Exp: -2}, {Neg: true, Digits: "1230"}, {Digits: nines100[1:] + "0"},
	}
	for _, digits := range []string{"00", "01", "001", "-1", "+1", "1.5", "1e5", " 1", "1 ", "a", "1a", "a1", "1\x00", "\x001", "1\xff", "/", ":", "\u0661", "1\u0661", "9" + nines100, "0" + nines100, strings.Repeat("1", 400), strings.Repeat("1", 401), strings.Repeat("1", 5000)} {
		out = append(out, api.Dec{Digits: digits}, api.Dec{Neg: true, Digits: digits, Exp: -3})
	}
	for _, exp := range []int{101, -101, 102, 1000, -1000, math.MaxInt, math.MinInt, 1 << 32, -1 << 32, 1<<32 + 1} {
		out = append(out, api.Dec{Digits: "1", Exp: exp}, api.Dec{Neg: true, Digits: "1", Exp: exp}, api.Dec{Digits: "0", Exp: exp})
	}
	return out
}

// P4.1
func TestRight(t *testing.T) {
	for _, d := range rightOnes() {
		if !Right(d) {
			t.Errorf("%v is right", d)
		}
	}
	for _, d := range wrongOnes() {
		if Right(d) {
			t.Errorf("%v is not right", d)
		}
	}
	for c := range 256 {
		one, two := string([]byte{byte(c)}), string([]byte{'1', byte(c)})
		if Right(api.Dec{Digits: one}) != (c >= '0' && c <= '9') {
			t.Errorf("%q", one)
		}
		if Right(api.Dec{Digits: two}) != (c >= '1' && c <= '9') {
			t.Errorf("%q", two)
		}
	}
}

// P4.1
func TestMake(t *testing.T) {
	for _, c := range []struct {
		neg    bool
		digits string
		exp    int
		want   api.Dec
	}{
		{false, "0", 0, api.Dec{Digits: "0"}},
		{true, "0", 0, api.Dec{Digits: "0"}},
		{true, "000", 1000, api.Dec{Digits: "0"}},
		{false, zeros400, -1000, api.Dec{Digits: "0"}},
		{true, "00120", -1, api.Dec{Neg: true, Digits: "12"}},
		{false, "1", 100, api.Dec{Digits: "1", Exp: 100}},
		{false, "1", -100, api.Dec{Digits: "1", Exp: -100}},
		{false, "10", 99, api.Dec{Digits: "1", Exp: 100}},
		{false, "10", -101, api.Dec{Digits: "1", Exp: -100}},
		{false, "1" + zeros400[1:], -499, api.Dec{Digits: "1", Exp: -100}},
		{false, "1" + zeros400[1:], -299, api.Dec{Digits: "1", Exp: 100}},
		{false, zeros400[100:] + nines100, 7, api.Dec{Digits: nines100, Exp: 7}},
		{true, nines100 + zeros400[100:], -300, api.Dec{Neg: true, Digits: nines100}},
	} {
		if got, e := Make(c.neg, c.digits, c.exp); got != c.want || e != api.OK {
			t.Errorf("Make(%v, %q, %d): %v, %d; want %v", c.neg, c.digits, c.exp, got, e, c.want)
		}
	}
}

// P4.1
func TestMakeRefuses(t *testing.T) {
	for _, c := range []struct {
		digits string
		exp    int
	}{
		{"", 0}, {"", 1001}, {"-", 0}, {"-1", 0}, {"+1", 0}, {"1.5", 0}, {"1e5", 0}, {" 1", 0}, {"1 ", 0}, {"x", 0}, {"0x", 0}, {"00x", 0}, {"x0", 0}, {"0x1", 0}, {"1_0", 0},
		{"/", 0}, {":", 0}, {"0/", 0}, {"0:0", 0}, {"1\x00", 0}, {"\x00", 0}, {"\xff", 0}, {"0\xff0", 0}, {"\u0661", 0}, {"1\u06610", 0}, {"\uff11", 0},
		{"0", 1001}, {"0", -1001}, {"000", 1001}, {"0", math.MaxInt}, {"0", math.MinInt}, {"1", math.MaxInt}, {"10", math.MaxInt}, {"1", math.MinInt}, {"0", 1 << 32}, {"1", 1 << 32}, {"0", -1 << 32},
		{"1", 101}, {"1", -101}, {"10", 100}, {"10", -102}, {"1", 1000}, {"1", -1000}, {"100", 1000},
		{"1" + nines100, 0}, {nines100 + "1", -50}, {nines100 + "01", 0}, {strings.Repeat("1", 400), 0}, {strings.Repeat("1", 401), 0},
		{"1" + zeros400, -400}, {"1" + zeros400 + "0", -401}, {"1" + zeros400[1:], -500}, {"1" + zeros400[1:], -298},
	} {
		for _, neg := range []bool{false, true} {
			if got, e := Make(neg, c.digits, c.exp); got != (api.Dec{}) || e != api.ErrDec {
				t.Errorf("Make(%v, %q, %d): %v, %d", neg, c.digits, c.exp, got, e)
			}
		}
	}
}

// P4.1: zeros ahead count nothing, whatever there are of them.
func TestZerosAhead(t *testing.T) {
	for _, n := range []int{0, 1, 2, 99, 100, 101, 300, 399, 400, 401, 1000, 1 << 20} {
		ahead := strings.Repeat("0", n)
		for _, digits := range []string{"0", "1", "10", "120", nines100, nines100 + zeros400[100:], "1" + zeros400} {
			for _, exp := range []int{0, -300, 3, 1001} {
				want, e := Make(true, digits, exp)
				if got, f := Make(true, ahead+digits, exp); got != want || e != f {
					t.Errorf("%d zeros ahead of %q, %d: %v, %d; want %v, %d", n, digits, exp, got, f, want, e)
				}
			}
		}
	}
}

// P4.1: all lengths of digits and zeros about the limits, all exponents about theirs.
func TestMakeHeldAgainstNumbers(t *testing.T) {
	lengths := []int{0, 1, 2, 20, 99, 100, 101, 199, 299, 300, 301, 399, 400, 401}
	exps := []int{-1001, -1000, -999, -501, -500, -499, -401, -400, -399, -201, -200, -199, -102, -101, -100, -99, -21, -20, -1, 0, 1, 20, 21, 98, 99, 100, 101, 999, 1000, 1001}
	for _, count := range lengths {
		for _, behind := range lengths {
			digits := strings.Repeat("7", count) + strings.Repeat("0", behind)
			for _, exp := range exps {
				made(t, false, digits, exp)
				made(t, true, "00"+digits, exp)
			}
		}
	}
	for c := range 256 {
		for _, around := range [][2]string{{"", ""}, {"0", ""}, {"1", ""}, {"", "0"}, {"", "5"}, {"00", "00"}, {"3", "3"}} {
			made(t, false, around[0]+string([]byte{byte(c)})+around[1], 2)
		}
	}
}

// P4.1
func TestFormat(t *testing.T) {
	for want, d := range map[string]api.Dec{
		"0":                                 {Digits: "0"},
		"7":                                 {Digits: "7"},
		"-15":                               {Neg: true, Digits: "15"},
		"1500":                              {Digits: "15", Exp: 2},
		"1.5":                               {Digits: "15", Exp: -1},
		"-0.15":                             {Neg: true, Digits: "15", Exp: -2},
		"0.015":                             {Digits: "15", Exp: -3},
		"100000000000000000000":             {Digits: "1", Exp: 20},
		"1e21":                              {Digits: "1", Exp: 21},
		"-15e100":                           {Neg: true, Digits: "15", Exp: 100},
		"0.00000000000000000001":            {Digits: "1", Exp: -20},
		"-0.00000000000000000012":           {Neg: true, Digits: "12", Exp: -20},
		"1e-21":                             {Digits: "1", Exp: -21},
		"-15e-100":                          {Neg: true, Digits: "15", Exp: -100},
		"1.23456789012345678901":            {Digits: "123456789012345678901", Exp: -20},
		"0.12345678901234567891":            {Digits: "12345678901234567891", Exp: -20},
		"123456789012345678901e21":          {Digits: "123456789012345678901", Exp: 21},
		nines100:                            {Digits: nines100},
		"-" + nines100 + "e-100":            {Neg: true, Digits: nines100, Exp: -100},
		nines100[20:] + "." + nines100[80:]: {Digits: nines100, Exp: -20},
		nines100 + zeros400[380:]:           {Digits: nines100, Exp: 20},
	} {
		if got, e := Format(d); got != want || e != api.OK {
			t.Errorf("Format(%v): %q, %d; want %q", d, got, e, want)
		}
	}
	for _, d := range wrongOnes() {
		if got, e := Format(d); got != "" || e != api.ErrDec {
			t.Errorf("Format(%v): %q, %d", d, got, e)
		}
	}
}

// P4.1: a plain writing is a number of the same value, and shows an exponent only where it must.
func TestFormatHeldAgainstNumbers(t *testing.T) {
	for _, d := range rightOnes() {
		s, e := Format(d)
		value, ok := new(big.Rat).SetString(s)
		if e != api.OK || !ok || value.Cmp(valueOf(d)) != 0 || number.FindString(s) != s {
			t.Errorf("Format(%v): %q, %d", d, s, e)
		}
		if strings.Contains(s, "e") != (d.Exp < -20 || d.Exp > 20) || strings.Contains(s, ".") != (d.Exp < 0 && d.Exp >= -20) {
			t.Errorf("Format(%v): %q", d, s)
		}
	}
}

func valueOf(d api.Dec) *big.Rat {
	n, _ := new(big.Int).SetString(d.Digits, 10)
	if d.Neg {
		n.Neg(n)
	}
	power := new(big.Rat).SetInt(new(big.Int).Exp(ten, big.NewInt(int64(max(d.Exp, -d.Exp))), nil))
	if d.Exp < 0 {
		power.Inv(power)
	}
	return power.Mul(power, new(big.Rat).SetInt(n))
}

// P4.2
func TestParse(t *testing.T) {
	for s, want := range map[string]api.Dec{
		"0":                            {Digits: "0"},
		"-0":                           {Digits: "0"},
		"-0.00e7":                      {Digits: "0"},
		"0e1000":                       {Digits: "0"},
		"0E-1000":                      {Digits: "0"},
		"0.0e1001":                     {Digits: "0"},
		"7":                            {Digits: "7"},
		"1500":                         {Digits: "15", Exp: 2},
		"-1.50e1":                      {Neg: true, Digits: "15"},
		"0.0012":                       {Digits: "12", Exp: -4},
		"-10.010":                      {Neg: true, Digits: "1001", Exp: -2},
		"1E+3":                         {Digits: "1", Exp: 3},
		"1e-3":                         {Digits: "1", Exp: -3},
		"1e-0":                         {Digits: "1"},
		"1e0000":                       {Digits: "1"},
		"25e-0003":                     {Digits: "25", Exp: -3},
		"1e100":                        {Digits: "1", Exp: 100},
		"1E0100":                       {Digits: "1", Exp: 100},
		"1e-100":                       {Digits: "1", Exp: -100},
		"0." + zeros400[301:] + "1":    {Digits: "1", Exp: -100},
		"0." + zeros400[2:] + "1e0400": {Digits: "1", Exp: 1},
		"1" + zeros400[1:] + "e-499":   {Digits: "1", Exp: -100},
		nines100[1:] + ".9" + zeros400[100:] + "e1": {Digits: nines100},
	} {
		for _, rest := range []string{"", " ", ",", "x", "-", "+1", ".", ".e1", "\x00", "\xff", "\u00e9", "\u0661"} {
			if got, behind, e := Parse(s + rest); got != want || behind != rest || e != api.OK {
				t.Errorf("Parse(%q): %v, %q, %d; want %v, %q", s+rest, got, behind, e, want, rest)
			}
		}
	}
}

// P4.2: the longest beginning, and what is behind it.
func TestParseOfBeginnings(t *testing.T) {
	for s, want := range map[string][2]string{
		"01": {"0", "1"}, "00": {"0", "0"}, "-01.5": {"0", "1.5"}, "0-": {"0", "-"}, "-0x": {"0", "x"}, "12a": {"12", "a"}, "1,2": {"1", ",2"},
		"1.": {"1", "."}, "1.e5": {"1", ".e5"}, "1.x": {"1", ".x"}, "1..5": {"1", "..5"}, "1.-5": {"1", ".-5"}, "1.5.5": {"1.5", ".5"}, "-1.5-": {"-1.5", "-"},
		"1e": {"1", "e"}, "1E": {"1", "E"}, "1e+": {"1", "e+"}, "1e-": {"1", "e-"}, "1e+x": {"1", "e+x"}, "1e-+5": {"1", "e-+5"}, "1e--5": {"1", "e--5"}, "1ee5": {"1", "ee5"}, "1eE5": {"1", "eE5"}, "1e.5": {"1", "e.5"}, "1.5e": {"1.5", "e"}, "1.5e-": {"1.5", "e-"},
		"1e5e5": {"100000", "e5"}, "1e5.5": {"100000", ".5"}, "1e1E1": {"10", "E1"}, "1e05x": {"100000", "x"}, "1\u0661": {"1", "\u0661"}, "1.\u0661": {"1", ".\u0661"}, "1e\u0661": {"1", "e\u0661"}, "1\xe5": {"1", "\xe5"},
	} {
		d, rest, e := Parse(s)
		if plain, f := Format(d); plain != want[0] || rest != want[1] || e != api.OK || f != api.OK {
			t.Errorf("Parse(%q): %q, %q, %d; want %q", s, plain, rest, e, want)
		}
	}
}

// P4.2
func TestParseRefuses(t *testing.T) {
	for _, s := range []string{
		"", "-", "+1", "+", ".5", ".", "-.5", "--1", "-+1", "- 1", " 1", "\n1", "x", "e5", "-e5", "e", "null", "\"1\"", "\x00", "\xff", "\xff1", "\u00e9", "\u0661", "-\u0661", "\uff11", "Infinity", "NaN",
		"1e101", "1e-101", "10e100", "1e1000", "1e-1000", "1e9999", "1e-9999", "0e1001", "0e-1001", "0.0e-1000", "0e9999", "-0e-9999", "0.00e1003",
		"1e00001", "1e00000", "0e00000", "1e-00001", "1E+10000", "1e99999999999999999999999", "0e" + strings.Repeat("9", 5000),
		"1" + nines100, "0.1" + nines100, nines100 + ".1", "0." + zeros400[300:] + "1",
		"0." + zeros400, "0." + zeros400 + "e5", "0." + zeros400[1:] + "1e400", "1" + zeros400 + "e-400", "1." + zeros400, "1" + zeros400[:200] + "." + zeros400[:200], strings.Repeat("9", 5000),
	} {
		for _, s := range []string{s, s + ",", s + "\xff"} {
			if got, rest, e := Parse(s); got != (api.Dec{}) || rest != s || e != api.ErrDec {
				t.Errorf("Parse(%q): %v, %q, %d", s, got, rest, e)
			}
		}
	}
}

// P4.2: all short texts of what numbers are written with.
func TestParseOfAllShortTexts(t *testing.T) {
	texts := []string{""}
	for range 6 {
		var longer []string
		for _, s := range texts {
			for _, c := range "-+.eE015x" {
				longer = append(longer, s+string(c))
			}
		}
		for _, s := range longer {
			parsed(t, s)
		}
		texts = longer
	}
}

// P4.2: the limits of digits, on both sides of the point, and of exponents.
func TestParseAtLimits(t *testing.T) {
	lengths := []int{1, 2, 99, 100, 101, 199, 200, 201, 299, 300, 301, 399, 400, 401}
	powers := []string{"", "e0", "e99", "e100", "e101", "e-99", "e-100", "e-101", "e+299", "e300", "e301", "e-299", "e-300", "e399", "e400", "e-399", "e-400", "e500", "e-500", "e999", "e1000", "e1001", "e-999", "e-1000", "e-1001", "e1400", "e9999", "e-9999", "e00000"}
	for _, whole := range lengths {
		for _, fraction := range lengths {
			for _, power := range powers {
				zeros := "." + strings.Repeat("0", fraction-1)
				parsed(t, "0"+zeros+"0"+power)
				parsed(t, "-0"+zeros+"3"+power)
				parsed(t, "3"+strings.Repeat("0", whole-1)+zeros+"0"+power+"e")
				parsed(t, strings.Repeat("3", whole)+zeros+"3"+power+".")
			}
		}
		for _, power := range powers {
			parsed(t, "3"+strings.Repeat("0", whole-1)+power)
		}
	}
}

// P4.2
func TestOfIntToInt(t *testing.T) {
	edges := []uint64{0, 1, 9, 10, 11, 100, 999, 1000, 1e19, 1e19 + 1, 1 << 31, 1 << 32, 1<<63 - 1, 1 << 63, math.MaxUint64 - 5, math.MaxUint64}
	source := rand.New(rand.NewSource(1))
	for range 2000 {
		edges = append(edges, source.Uint64()>>source.Intn(64))
	}
	for _, n := range edges {
		for _, neg := range []bool{false, true} {
			d := OfInt(neg, n)
			want, _ := wantMake(neg, strconv.FormatUint(n, 10), 0)
			if d != want || !Right(d) {
				t.Errorf("OfInt(%v, %d): %v; want %v", neg, n, d, want)
			}
			if below, back, ok := ToInt(d); below != (neg && n > 0) || back != n || !ok {
				t.Errorf("ToInt(%v): %v, %d, %v", d, below, back, ok)
			}
		}
	}
	if d := OfInt(true, 0); d != (api.Dec{Digits: "0"}) {
		t.Error(d)
	}
	if d := OfInt(false, 1000); d != (api.Dec{Digits: "1", Exp: 3}) {
		t.Error(d)
	}
}

// P4.2: of what is not right, not whole, or too great, there is nothing.
func TestToIntOfNone(t *testing.T) {
	for _, d := range wrongOnes() {
		if neg, n, ok := ToInt(d); neg || n != 0 || ok {
			t.Errorf("ToInt(%v): %v, %d, %v", d, neg, n, ok)
		}
	}
	for _, d := range rightOnes() {
		value := valueOf(d)
		size := new(big.Int).Abs(value.Num())
		whole := value.IsInt() && size.IsUint64()
		neg, n, ok := ToInt(d)
		if ok != whole || ok && (n != size.Uint64() || neg != d.Neg) || !ok && (n != 0 || neg) {
			t.Errorf("ToInt(%v): %v, %d, %v", d, neg, n, ok)
		}
	}
}

// P4.3: from decimals to plain writings and back; no two share one.
func TestPlainWritingsAreOneToOne(t *testing.T) {
	seen := map[string]api.Dec{}
	for _, d := range rightOnes() {
		s, e := Format(d)
		if other, ok := seen[s]; ok || e != api.OK {
			t.Errorf("%v and %v: %q, %d", d, other, s, e)
		}
		seen[s] = d
		if back, rest, e := Parse(s); back != d || rest != "" || e != api.OK {
			t.Errorf("Parse(%q): %v, %q, %d; want %v", s, back, rest, e, d)
		}
	}
}

// writings answers numbers that are written otherwise than plainly, of the same value as digits times 10 to the power exp.
func writings(digits string, exp int) []string {
	var out []string
	for behind := range len(digits) {
		at := len(digits) - behind
		for _, zeros := range []string{"", "0", "000"} {
			whole, fraction := digits[:at], digits[at:]+zeros
			if fraction != "" {
				whole += "."
			}
			for _, e := range []string{"e", "E", "e0", "E0"} {
				out = append(out, whole+fraction+e+strconv.Itoa(exp+behind))
				if exp+behind >= 0 {
					out = append(out, whole+fraction+e[:1]+"+"+strconv.Itoa(exp+behind))
				}
			}
		}
	}
	for _, ahead := range []int{0, 1, 5} {
		out = append(out, "0."+strings.Repeat("0", ahead)+digits+"e"+strconv.Itoa(exp+ahead+len(digits)))
	}
	for _, behind := range []int{1, 5} {
		out = append(out, digits+strings.Repeat("0", behind)+"e"+strconv.Itoa(exp-behind))
	}
	return out
}

// P4.3: however a number is written its decimal is the same.
func TestHoweverItIsWritten(t *testing.T) {
	for _, digits := range []string{"1", "15", "1203", "18446744073709551615"} {
		for _, exp := range []int{-100, -50, -21, -20, -19, -3, -1, 0, 1, 3, 19, 20, 21, 50, 100} {
			for _, s := range writings(digits, exp) {
				// An e0-1 is no exponent.
				if strings.Contains(strings.ToLower(s), "e0-") {
					continue
				}
				for _, neg := range []bool{false, true} {
					want, s := api.Dec{Neg: neg, Digits: digits, Exp: exp}, s
					if neg {
						s = "-" + s
					}
					if got, rest, e := Parse(s); got != want || rest != "" || e != api.OK {
						t.Errorf("Parse(%q): %v, %q, %d; want %v", s, got, rest, e, want)
					}
				}
			}
		}
	}
	for _, s := range []string{"0", "-0", "0.0", "-0.000", "0e0", "0E+7", "-0e-7", "0.0e100", "0e0001"} {
		if got, rest, e := Parse(s); got != (api.Dec{Digits: "0"}) || rest != "" || e != api.OK {
			t.Errorf("Parse(%q): %v, %q, %d", s, got, rest, e)
		}
	}
}

// FuzzDec holds the calls against the library, at any texts and numbers.
func FuzzDec(f *testing.F) {
	for _, s := range []string{"", "0", "-1.50e1", "1e", "1.e5", "01", "25e-0003", "1e101", "x", "1e00001", "0." + zeros400, nines100 + "e-100"} {
		f.Add(s, 0)
		f.Add(s, -101)
	}
	f.Fuzz(func(t *testing.T, s string, exp int) {
		parsed(t, s)
		for _, neg := range []bool{false, true} {
			made(t, neg, s, exp)
			d := api.Dec{Neg: neg, Digits: s, Exp: exp}
			want, ok := wantMake(neg, s, exp)
			if Right(d) != (ok && d == want) {
				t.Fatalf("Right(%v): %v", d, Right(d))
			}
			plain, e := Format(d)
			if e != errno(Right(d)) || e != api.OK && plain != "" {
				t.Fatalf("Format(%v): %q, %d", d, plain, e)
			}
			if back, rest, e := Parse(plain); Right(d) && (back != d || rest != "" || e != api.OK) {
				t.Fatalf("Parse(%q): %v, %q, %d; want %v", plain, back, rest, e, d)
			}
		}
	})
}
