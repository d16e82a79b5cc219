package b64

import (
	"encoding/base64"
	"encoding/hex"
	"math/rand"
	"strings"
	"testing"

	"targum/api"
)

const (
	letters64 = "ABCDEFGHIJKLMNOPQRSTUVWXYZabcdefghijklmnopqrstuvwxyz0123456789-_"
	letters16 = "0123456789abcdef"
	// Neighbours of letters, those of other alphabets, what is often overlooked, and bytes of no character.
	others = "+/=@[`{:.,\x00\n\r\t \x7f\x80\xc1\xff"
)

// wantRead answers what the library reads of letters, strictly; it knows no limit, and passes over ends of lines.
func wantRead(s string) (string, bool) {
	b, err := base64.RawURLEncoding.Strict().DecodeString(s)
	if err != nil || len(b) > api.MaxCode || strings.ContainsAny(s, "\r\n") {
		return "", false
	}
	return string(b), true
}

// wantUnpair answers what the library reads of digits, which takes capitals, too.
func wantUnpair(s string) (string, bool) {
	b, err := hex.DecodeString(s)
	if err != nil || len(b) > api.MaxCode || strings.ContainsAny(s, "ABCDEF") {
		return "", false
	}
	return string(b), true
}

// written holds bytes' letters and digits against the library's, and takes them back.
func written(t *testing.T, s string) {
	t.Helper()
	code, pairs := base64.RawURLEncoding.EncodeToString([]byte(s)), hex.EncodeToString([]byte(s))
	if got, e := Code(s); got != code || e != api.OK {
		t.Errorf("Code(%q): %q, %v; want %q", s, got, e, code)
	}
	if got, e := Pairs(s); got != pairs || e != api.OK {
		t.Errorf("Pairs(%q): %q, %v; want %q", s, got, e, pairs)
	}
	if got, e := Decode(code); got != s || e != api.OK || !IsCode(code) {
		t.Errorf("Decode(%q): %q, %v; want %q", code, got, e, s)
	}
	if got, e := Unpair(pairs); got != s || e != api.OK {
		t.Errorf("Unpair(%q): %q, %v; want %q", pairs, got, e, s)
	}
}

// read holds what is read of a text, as letters and as digits, against the library; what is read must be written so again.
func read(t *testing.T, s string) {
	t.Helper()
	want, ok := wantRead(s)
	got, e := Decode(s)
	if got != want || (e == api.OK) != ok || !ok && e != api.ErrCode || IsCode(s) != ok {
		t.Errorf("Decode(%q): %q, %v; want %q, %v", s, got, e, want, ok)
	}
	if code, e := Code(got); ok && (code != s || e != api.OK) {
		t.Errorf("Code(%q): %q, %v; want %q", got, code, e, s)
	}
	want, ok = wantUnpair(s)
	got, e = Unpair(s)
	if got != want || (e == api.OK) != ok || !ok && e != api.ErrCode {
		t.Errorf("Unpair(%q): %q, %v; want %q, %v", s, got, e, want, ok)
	}
	if pairs, e := Pairs(got); ok && (pairs != s || e != api.OK) {
		t.Errorf("Pairs(%q): %q, %v; want %q", got, pairs, e, s)
	}
}

// P3.1
func TestCodeAndPairs(t *testing.T) {
	for s, want := range map[string][2]string{
		"":                 {"", ""},
		"\x00":             {"AA", "00"},
		"\xff":             {"_w", "ff"},
		"\xff\xfe":         {"__4", "fffe"},
		"\xfb\xff":         {"-_8", "fbff"},
		"\x00\x00\x00":     {"AAAA", "000000"},
		"\x00\x00\x01":     {"AAAB", "000001"},
		"\xff\xff\xff":     {"____", "ffffff"},
		"f":                {"Zg", "66"},
		"foobar":           {"Zm9vYmFy", "666f6f626172"},
		"\x01\x23\x45\x67": {"ASNFZw", "01234567"},
		"\x89\xab\xcd\xef": {"iavN7w", "89abcdef"},
		"\u00e9":           {"w6k", "c3a9"},
	} {
		if got, e := Code(s); got != want[0] || e != api.OK {
			t.Errorf("Code(%q): %q, %v; want %q", s, got, e, want[0])
		}
		if got, e := Pairs(s); got != want[1] || e != api.OK {
			t.Errorf("Pairs(%q): %q, %v; want %q", s, got, e, want[1])
		}
	}
}

// P3.1: each letter has its number, each digit its own.
func TestLettersInOrder(t *testing.T) {
	for n := range len(letters64) {
		want := letters64[n:n+1] + "A"
		if got, e := Code(string([]byte{byte(n << 2)})); got != want || e != api.OK {
			t.Errorf("%d: %q, %v; want %q", n, got, e, want)
		}
	}
	for n := range len(letters16) {
		want := letters16[n:n+1] + letters16[15-n:16-n]
		if got, e := Pairs(string([]byte{byte(n<<4 | 15 - n)})); got != want || e != api.OK {
			t.Errorf("%d: %q, %v; want %q", n, got, e, want)
		}
	}
}

// P3.1, P3.2: the limit, from both sides.
func TestLimit(t *testing.T) {
	for _, c := range []string{"\x00", "x", "\xff"} {
		for n := 396; n <= api.MaxCode; n++ {
			written(t, strings.Repeat(c, n))
		}
		for _, n := range []int{401, 402, 403, 404, 800, 4000, 1 << 20} {
			s := strings.Repeat(c, n)
			if got, e := Code(s); got != "" || e != api.ErrCode {
				t.Errorf("Code of %d bytes: %q, %v", n, got, e)
			}
			if got, e := Pairs(s); got != "" || e != api.ErrCode {
				t.Errorf("Pairs of %d bytes: %q, %v", n, got, e)
			}
			read(t, base64.RawURLEncoding.EncodeToString([]byte(s)))
			read(t, hex.EncodeToString([]byte(s)))
		}
	}
	for n := range 1000 {
		read(t, strings.Repeat("A", n))
		read(t, strings.Repeat("0", n))
		read(t, strings.Repeat("_", n))
		read(t, strings.Repeat("\n", n))
		read(t, strings.Repeat("\xff", n))
	}
}

// P3.2
func TestWrongCodes(t *testing.T) {
	for _, s := range []string{
		"A", "_", "AAAAA", "Zm9vA",
		"Zh", "Zn", "Z_", "AB", "AP", "AAB", "AAD", "Zm9", "__5", "__7", "____AB",
		"Zg==", "Zm8=", "Zg=", "=", "AA==AA", "====",
		"+_8A", "/_8A", "AA AA", " AA", "AA ", "AA\n", "\nAA", "A\r\nA", "A\x00", "\x00\x00",
		"\u00e9", "A\u00e9", "\u0141\u0141", "\uff21\uff21", "\xff\xff", "AA\xff", "A\xc3", "\ufffd\ufffd", "\U00010041\U00010041",
	} {
		if got, e := Decode(s); got != "" || e != api.ErrCode || IsCode(s) {
			t.Errorf("Decode(%q): %q, %v, %v", s, got, e, IsCode(s))
		}
	}
}

// P3.2
func TestWrongPairs(t *testing.T) {
	for _, s := range []string{
		"0", "f", "000", "fffef",
		"0F", "F0", "AB", "aB", "Ab", "FFFE", "fffE",
		"0g", "g0", "0x", "0x00", "0X", "  ", "0 ", " 0", "00 ", "00 00", "-1", "+1", "0/", "0:", "0`", "0@", "00\n", "0\x00", "\x00\x00", "\x000",
		"\u00e9", "0\u00e9", "\u0130\u0130", "\u0161\u0161", "\u0660\u0660", "\uff10\uff10", "\xff\xff", "00\xff\xff", "\ufffd\ufffd",
	} {
		if got, e := Unpair(s); got != "" || e != api.ErrCode {
			t.Errorf("Unpair(%q): %q, %v", s, got, e)
		}
	}
}

// P3.3: from bytes to letters.
func TestBytesGoAndComeBack(t *testing.T) {
	written(t, "")
	for a := range 256 {
		written(t, string([]byte{byte(a)}))
		for b := range 256 {
			written(t, string([]byte{byte(a), byte(b)}))
		}
	}
	source := rand.New(rand.NewSource(1))
	for n := range 401 {
		s := make([]byte, n)
		for range 10 {
			source.Read(s)
			written(t, string(s))
		}
	}
}

// P3.2, P3.3: from letters to bytes, of all short texts.
func TestLettersGoAndComeBack(t *testing.T) {
	read(t, "")
	for a := range 256 {
		read(t, string([]byte{byte(a)}))
		for b := range 256 {
			read(t, string([]byte{byte(a), byte(b)}))
		}
	}
	all := letters64 + others
	for a := range len(all) {
		for b := range len(all) {
			for c := range len(all) {
				s := string([]byte{all[a], all[b], all[c]})
				read(t, s)
				read(t, "a"+s)
				read(t, "aaaa"+s)
			}
		}
	}
}

// P3.2: every last letter of a long code, and one wrong character at each of its places.
func TestOneWrongCharacter(t *testing.T) {
	for _, n := range []int{398, 399, 400} {
		s := strings.Repeat("\x5a", n)
		for _, code := range []string{base64.RawURLEncoding.EncodeToString([]byte(s)), hex.EncodeToString([]byte(s))} {
			for i := range code {
				for j := range len(others) {
					read(t, code[:i]+others[j:j+1]+code[i+1:])
				}
			}
			for i := range len(letters64) {
				read(t, code[:len(code)-1]+letters64[i:i+1])
			}
		}
	}
}

func FuzzB64(f *testing.F) {
	for _, s := range []string{"", "A", "Zg", "Zh", "__4", "fffe", "FFFE", "Zm9vYmFy", "\xff\xfe", "\u0141", "AA\n", strings.Repeat("A", 534), strings.Repeat("0", 800)} {
		f.Add(s)
	}
	f.Fuzz(func(t *testing.T, s string) {
		read(t, s)
		if len(s) <= api.MaxCode {
			written(t, s)
		} else if got, e := Code(s); got != "" || e != api.ErrCode {
			t.Fatalf("Code(%q): %q, %v", s, got, e)
		}
	})
}
