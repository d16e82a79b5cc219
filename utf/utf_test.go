package utf

import (
	"encoding/json"
	"strings"
	"testing"
	"unicode/utf16"
	"unicode/utf8"

	"targum/api"
)

// illFormed are bytes that begin with a character that is none.
var illFormed = []string{
	"\x80", "\xbf", "\xc0\x80", "\xc1\xbf", "\xc2", "\xc2a", "\xe0\x9f\xbf", "\xe4\xb8", "\xe4a\x80", "\xed\xa0\x80", "\xed\xbf\xbf",
	"\xf0\x8f\xbf\xbf", "\xf0\x9f\x98", "\xf4\x90\x80\x80", "\xf5\x80\x80\x80", "\xf8\x88\x80\x80\x80", "\xfe", "\xff", "\xef\xbf", "\xef\xbf\xbe"[:2] + "a",
}

// wellFormed are texts, at the edges of each count of bytes.
var wellFormed = []string{
	"", "a", "\x00", "\x1f", " ", "\x7f", "\u0080", "\u07ff", "\u0800", "\ud7ff", "\ue000", "\ufffd", "\ufffe", "\uffff", "\U00010000", "\U0010ffff",
	"\ufffd\ufffd", "a\u00e9\U0001f600", "\"", "\\", "/", "\b\f\n\r\t", "\v", "\\u0041", "\\\"\\", "\u2028<>&",
}

func right(t *testing.T, s, text, rest string) {
	t.Helper()
	got, behind, e := Unquote(s)
	if got != text || behind != rest || e != api.OK {
		t.Errorf("Unquote(%q): %q, %q, %v; want %q, %q", s, got, behind, e, text, rest)
	}
}

func wrong(t *testing.T, s string, want api.Errno) {
	t.Helper()
	got, behind, e := Unquote(s)
	if got != "" || behind != s || e != want {
		t.Errorf("Unquote(%q): %q, %q, %v; want none, all of it, %v", s, got, behind, e, want)
	}
}

// P2.1
func TestRight(t *testing.T) {
	for _, s := range wellFormed {
		if !Right(s) || !Right("x"+s+"x") {
			t.Errorf("%q is a text", s)
		}
	}
	for _, s := range illFormed {
		if Right(s) || Right("x"+s) || Right("\ufffd"+s+"\ufffd") {
			t.Errorf("%q is none", s)
		}
	}
}

func TestRightOfAllShortOnes(t *testing.T) {
	heads := []byte{0, 'a', 0x7f, 0x80, 0x8f, 0x90, 0x9f, 0xa0, 0xbf, 0xc0, 0xc1, 0xc2, 0xdf, 0xe0, 0xe1, 0xec, 0xed, 0xee, 0xef, 0xf0, 0xf1, 0xf3, 0xf4, 0xf5, 0xff}
	for a := range 256 {
		for _, b := range heads {
			for _, c := range heads {
				for _, d := range heads {
					s := string([]byte{byte(a), b, c, d})
					for n := range len(s) + 1 {
						if Right(s[:n]) != utf8.ValidString(s[:n]) {
							t.Fatalf("%q", s[:n])
						}
					}
				}
			}
		}
	}
}

// P2.1
func TestQuote(t *testing.T) {
	for s, want := range map[string]string{
		"":                       `""`,
		"a/\x7f'":                "\"a/\x7f'\"",
		"\"\\":                   `"\"\\"`,
		"\b\f\n\r\t":             `"\b\f\n\r\t"`,
		"\x00\x01\x07\x0b\x0e":   `"\u0000\u0001\u0007\u000b\u000e"`,
		"\x0f\x10\x1a\x1f ":      `"\u000f\u0010\u001a\u001f "`,
		"\u00e9\u4e16\U0001f600": "\"\u00e9\u4e16\U0001f600\"",
		"\u0080\u2028\ufffd":     "\"\u0080\u2028\ufffd\"",
		"\\u0041":                `"\\u0041"`,
	} {
		if got, e := Quote(s); got != want || e != api.OK {
			t.Errorf("Quote(%q): %q, %v; want %q", s, got, e, want)
		}
	}
	for _, s := range illFormed {
		for _, s := range []string{s, "\"" + s, s + "a", "a\n" + s} {
			if got, e := Quote(s); got != "" || e != api.ErrUtf {
				t.Errorf("Quote(%q): %q, %v", s, got, e)
			}
		}
	}
}

// P2.2
func TestUnquote(t *testing.T) {
	for q, text := range map[string]string{
		`""`:                             "",
		`"a\u00e9\ud83d\ude00"`:          "a\u00e9\U0001f600",
		`"\"\\\/\b\f\n\r\t"`:             "\"\\/\b\f\n\r\t",
		`"\u0000\u001F\u0022\u005c"`:     "\x00\x1f\"\\",
		`"\uABCD\uabcd\uAbCd\uFFFF"`:     "\uabcd\uabcd\uabcd\uffff",
		`"\ud7ff\ue000"`:                 "\ud7ff\ue000",
		`"\ud800\udc00\uDBFF\uDFFF"`:     "\U00010000\U0010ffff",
		"\"/\x7f\u0080\ufffd\u2028\"":    "/\x7f\u0080\ufffd\u2028",
		"\"\U00010000\U0010ffff\"":       "\U00010000\U0010ffff",
		`"\u00e9` + "\u00e9" + `\u00e9"`: "\u00e9\u00e9\u00e9",
		`"\\u0041"`:                      "\\u0041",
		`"\ufffd"`:                       "\ufffd",
		`"\u00410"`:                      "A0",
	} {
		for _, rest := range []string{"", "\"", "x", "\xff", "\\", q} {
			right(t, q+rest, text, rest)
		}
	}
}

func TestUnquoteOfNoQuotation(t *testing.T) {
	for _, s := range []string{
		"", "a", "'a'", " \"\"", "\n", "\\\"\"", "\"", "\"a", "\"a\u00e9", "\"\\", "\"\\\"", "a\xff", " \xff",
		"\"\n\"", "\"\x00\"", "\"\x1f\"", "\"a\tb\"", "\"\n\xff\"",
		`"\x"`, `"\U0041"`, `"\0"`, `"\'"`, `"\B"`, `"\v"`, `"\a"`, "\"\\\n\"", "\"\\ \"", "\"\\\u00e9\"",
		`"\u"`, `"\u12"`, `"\u123"`, `"\u123`, `"\u`, `"\u12g4"`, `"\u+123"`, `"\u-123"`, `"\u0x12"`, `"\u1_23"`, `"\u 123"`, `"\u12 4"`, "\"\\u12\u00e9\"",
		`"\ud800"`, `"\ud800`, `"\ud800\"`, `"\ud800\`, `"\ud800\u`, `"\ud800\udc0"`, `"\ud800x"`, `"\ud800u`, `"\ud800\n"`, `"\ud800udc00"`, `"\ud800\Udc00"`,
		`"\ud800\u0041"`, `"\ud800\ud800"`, `"\ud800\ud800\udc00"`, `"\udbff\udbff"`, `"\ud800\ue000"`, `"\ud800/\udc00"`,
		`"\udc00"`, `"\udfff"`, `"\udc00\ud800"`, `"\udc00\udc00"`, `"a\uDFFFb"`,
	} {
		wrong(t, s, api.ErrQuote)
	}
	for _, bad := range illFormed {
		for _, s := range []string{bad, bad + "\"\"", "\"" + bad, "\"" + bad + "\"", "\"a\u00e9" + bad + "\"", `"\n\u0041` + bad, `"\ud800\udc00` + bad} {
			wrong(t, s, api.ErrUtf)
		}
		// Here the part ahead is wrong already, and the character that begins it is one.
		for _, s := range []string{`"\` + bad, `"\u` + bad + `0000"`, `"\u00` + bad + `"`, `"\ud800` + bad, `"\ud800\` + bad, `"\ud800\u` + bad, "\"\x01" + bad, "a" + bad} {
			wrong(t, s, api.ErrQuote)
		}
	}
}

func TestUnquoteOfAllNumbers(t *testing.T) {
	for n := range 0x10000 {
		digits := hexOf(n)
		for _, q := range []string{`"\u` + digits + `"`, `"\u` + strings.ToUpper(digits) + `"`} {
			if utf16.IsSurrogate(rune(n)) {
				wrong(t, q, api.ErrQuote)
			} else {
				right(t, q+"x", string(rune(n)), "x")
			}
		}
	}
}

func hexOf(n int) string {
	return string([]byte{hexDigits[n>>12], hexDigits[n>>8&15], hexDigits[n>>4&15], hexDigits[n&15]})
}

// P2.2
func TestPairAndHalves(t *testing.T) {
	edges := []uint16{0, 'a', 0xd7ff, 0xd800, 0xd801, 0xd83d, 0xdbff, 0xdc00, 0xdc01, 0xde00, 0xdfff, 0xe000, 0xffff}
	for _, hi := range edges {
		for _, lo := range edges {
			c, ok := Pair(hi, lo)
			want := utf16.DecodeRune(rune(hi), rune(lo))
			if ok != (want != utf8.RuneError) || ok && c != want || !ok && c != 0 {
				t.Errorf("Pair(%x, %x): %x, %v", hi, lo, c, ok)
			}
		}
	}
	for _, c := range []rune{-1 << 31, -0x10000, -1, 0, 'a', 0xd800, 0xdfff, 0xffff, 0x110000, 1<<31 - 1} {
		if hi, lo, ok := Halves(c); hi != 0 || lo != 0 || ok {
			t.Errorf("Halves(%x): %x, %x, %v", c, hi, lo, ok)
		}
	}
	for c := rune(0x10000); c <= 0x10ffff; c++ {
		hi, lo, ok := Halves(c)
		a, b := utf16.EncodeRune(c)
		if rune(hi) != a || rune(lo) != b || !ok {
			t.Fatalf("Halves(%x): %x, %x, %v", c, hi, lo, ok)
		}
		if back, ok := Pair(hi, lo); back != c || !ok {
			t.Fatalf("Pair(%x, %x): %x, %v", hi, lo, back, ok)
		}
	}
}

// P2.3
func TestQuotedIsUnquoted(t *testing.T) {
	for c := rune(0); c <= 0x10ffff; c++ {
		if utf8.ValidRune(c) {
			round(t, string(c), "\"")
		}
	}
	for _, a := range wellFormed {
		for _, b := range wellFormed {
			for _, rest := range []string{"", "x", "\"", "\\", "\n", "\xff", "\x80"} {
				round(t, a+b, rest)
			}
		}
	}
	round(t, strings.Repeat("a\n\u00e9\U0001f600\x00", 100000), "\"")
}

func round(t *testing.T, s, rest string) {
	t.Helper()
	q, e := Quote(s)
	if e != api.OK {
		t.Fatalf("Quote(%q): %v", s, e)
	}
	right(t, q+rest, s, rest)
	var read string
	if err := json.Unmarshal([]byte(q), &read); err != nil || read != s {
		t.Errorf("Quote(%q): %q, which is read as %q, %v", s, q, read, err)
	}
}

func FuzzUtf(f *testing.F) {
	for _, s := range append(wellFormed, illFormed...) {
		f.Add(s, "")
		f.Add("\""+s+"\"", "x")
	}
	f.Add(`"\ud83d\ude00\u00e9\/"`, "\xff")
	f.Add(`"\ud83d\u0041"`, "\"")
	f.Fuzz(func(t *testing.T, s, rest string) {
		if Right(s) != utf8.ValidString(s) {
			t.Fatalf("Right(%q)", s)
		}
		if Right(s) {
			round(t, s, rest)
		}
		text, behind, e := Unquote(s)
		switch e {
		case api.OK:
			q := strings.TrimSuffix(s, behind)
			var read string
			if err := json.Unmarshal([]byte(q), &read); err != nil || read != text || !Right(text) {
				t.Fatalf("Unquote(%q): %q; read as %q, %v", s, text, read, err)
			}
			right(t, q+rest, text, rest)
		case api.ErrUtf:
			if Right(s) {
				t.Fatalf("Unquote(%q): %v of a text", s, e)
			}
			wrong(t, s, e)
		default:
			wrong(t, s, api.ErrQuote)
		}
	})
}
