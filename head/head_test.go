package head

import (
	"encoding/binary"
	"math"
	"math/rand"
	"strings"
	"testing"

	"targum/api"
)

// edges answers the least and the greatest argument of each number of bytes, and others about powers of 2.
func edges() []uint64 {
	out := []uint64{0, 1, 22, 23, 24, 25, 27, 28, 30, 31, 32, 500, math.MaxInt32, math.MaxInt64, math.MaxInt64 + 1, 0x0102030405060708, 0xfffefdfcfbfaf9f8}
	for _, power := range []int{5, 8, 9, 16, 17, 24, 32, 33, 40, 48, 56, 63} {
		least := uint64(1) << power
		out = append(out, least-1, least, least+1)
	}
	return append(out, math.MaxUint64-1, math.MaxUint64)
}

// infos answers right ones, and such as no head has.
func infos() []int {
	out := []int{math.MinInt, math.MinInt32, 1 << 32, 1<<32 + 24, math.MaxInt32, math.MaxInt}
	for info := -300; info <= 300; info++ {
		out = append(out, info)
	}
	return out
}

// written answers a head of an info and an argument, as the library writes numbers; false, if there is none.
func written(major int, info int, arg uint64) (string, bool) {
	out := []byte{byte(major*32 + info)}
	switch info {
	case 24:
		return string(append(out, byte(arg))), arg <= math.MaxUint8
	case 25:
		return string(binary.BigEndian.AppendUint16(out, uint16(arg))), arg <= math.MaxUint16
	case 26:
		return string(binary.BigEndian.AppendUint32(out, uint32(arg))), arg <= math.MaxUint32
	case 27:
		return string(binary.BigEndian.AppendUint64(out, arg)), true
	}
	return string(out), info >= 0 && info < 24 && uint64(info) == arg
}

// shortestOf answers the shortest of all heads that an argument has, and its info.
func shortestOf(major int, arg uint64) (string, int) {
	var found string
	at := -1
	for info := range 31 {
		if s, ok := written(major, info, arg); ok && (at < 0 || len(s) < len(found)) {
			found, at = s, info
		}
	}
	return found, at
}

// wantRead answers what Read must answer.
func wantRead(s string) (int, int, uint64, string, api.Errno) {
	if s == "" {
		return 0, 0, 0, s, api.ErrMore
	}
	major, info := int(s[0])/32, int(s[0])%32
	if info > 27 && info < 31 {
		return 0, 0, 0, s, api.ErrHead
	}
	length := map[int]int{24: 1, 25: 2, 26: 4, 27: 8}[info]
	if len(s) <= length {
		return 0, 0, 0, s, api.ErrMore
	}
	arg := uint64(info)
	if info > 23 {
		arg = 0
		for i := range length {
			arg = arg*256 + uint64(s[1+i])
		}
	}
	return major, info, arg, s[1+length:], api.OK
}

// read holds what is read of a text against what must be.
func read(t *testing.T, s string) {
	t.Helper()
	major, info, arg, behind, e := Read(s)
	wantMajor, wantInfo, wantArg, wantBehind, wantE := wantRead(s)
	if major != wantMajor || info != wantInfo || arg != wantArg || behind != wantBehind || e != wantE {
		t.Errorf("Read(%.20x): %d %d %d %.20x %v; want %d %d %d %.20x %v", s, major, info, arg, behind, e, wantMajor, wantInfo, wantArg, wantBehind, wantE)
	}
	if e != api.OK || info == 31 {
		return
	}
	if short, _ := Make(major, arg); IsShort(info, arg) != (short+behind == s) {
		t.Errorf("IsShort(%d, %d): %v, but %x is made", info, arg, IsShort(info, arg), short)
	}
}

// made holds what is made against the shortest head, and reads it again.
func made(t *testing.T, major int, arg uint64) {
	t.Helper()
	want, info := shortestOf(major, arg)
	s, e := Make(major, arg)
	if s != want || e != api.OK {
		t.Errorf("Make(%d, %d): %x, %v; want %x", major, arg, s, e, want)
	}
	if Size(arg) != len(want) {
		t.Errorf("Size(%d): %d; want %d", arg, Size(arg), len(want))
	}
	for _, behind := range []string{"", "\x00", "\xff", s, "x\x1c", "\xc3\xa9", strings.Repeat("\x9f", 5000)} {
		if m, i, a, rest, e := Read(s + behind); m != major || i != info || a != arg || rest != behind || e != api.OK {
			t.Errorf("Read(%x): %d %d %d %.20x %v; want %d %d %d", s, m, i, a, rest, e, major, info, arg)
		}
	}
	// P10.3: fewer bytes ask for more.
	for n := range len(s) {
		if m, i, a, rest, e := Read(s[:n]); m != 0 || i != 0 || a != 0 || rest != s[:n] || e != api.ErrMore {
			t.Errorf("Read(%x): %d %d %d %x %v; want ErrMore", s[:n], m, i, a, rest, e)
		}
	}
}

// P10.1: the examples of the document among them.
func TestMake(t *testing.T) {
	for _, x := range []struct {
		major int
		arg   uint64
		want  string
	}{
		{0, 0, "\x00"}, {0, 23, "\x17"}, {0, 24, "\x18\x18"}, {0, 31, "\x18\x1f"}, {0, 255, "\x18\xff"}, {0, 256, "\x19\x01\x00"}, {0, 65535, "\x19\xff\xff"}, {0, 65536, "\x1a\x00\x01\x00\x00"}, {0, 1<<32 - 1, "\x1a\xff\xff\xff\xff"}, {0, 1 << 32, "\x1b\x00\x00\x00\x01\x00\x00\x00\x00"}, {0, 1<<64 - 1, "\x1b\xff\xff\xff\xff\xff\xff\xff\xff"},
		{1, 0, "\x20"}, {1, 500, "\x39\x01\xf4"}, {2, 24, "\x58\x18"}, {3, 23, "\x77"}, {3, 0x0102, "\x79\x01\x02"}, {4, 0, "\x80"}, {5, 0x01020304, "\xba\x01\x02\x03\x04"}, {6, 0x0102030405060708, "\xdb\x01\x02\x03\x04\x05\x06\x07\x08"}, {7, 22, "\xf6"}, {7, 24, "\xf8\x18"}, {7, 32, "\xf8\x20"}, {7, 1<<64 - 1, "\xfb\xff\xff\xff\xff\xff\xff\xff\xff"},
	} {
		if s, e := Make(x.major, x.arg); s != x.want || e != api.OK {
			t.Errorf("Make(%d, %d): %x, %v; want %x", x.major, x.arg, s, e, x.want)
		}
		if Size(x.arg) != len(x.want) {
			t.Errorf("Size(%d): %d; want %d", x.arg, Size(x.arg), len(x.want))
		}
	}
}

// P10.1
func TestMakeOfWrongMajors(t *testing.T) {
	for _, major := range []int{-1, -2, -8, -128, -256, -1 << 32, math.MinInt, 8, 9, 31, 32, 255, 256, 263, 1 << 32, math.MaxInt} {
		for _, arg := range edges() {
			if s, e := Make(major, arg); s != "" || e != api.ErrArg {
				t.Errorf("Make(%d, %d): %x, %v; want none, ErrArg", major, arg, s, e)
			}
		}
	}
}

// P10.1, P10.3
func TestWhatIsMadeIsReadAgain(t *testing.T) {
	source := rand.New(rand.NewSource(1))
	for major := range 8 {
		for _, arg := range edges() {
			made(t, major, arg)
		}
		for arg := range uint64(1000) {
			made(t, major, arg)
		}
		for range 1000 {
			made(t, major, source.Uint64()>>source.Intn(64))
		}
	}
}

// P10.2: all first bytes, with fewer bytes behind them than they ask for, as many, and more.
func TestRead(t *testing.T) {
	read(t, "")
	for first := range 256 {
		for _, behind := range []string{"\x01\x02\x03\x04\x05\x06\x07\x08\x09\x0a", strings.Repeat("\x00", 10), strings.Repeat("\xff", 10), "\x80\x00\x00\x00\x00\x00\x00\x00\x80\x00", "\x00\x00\x00\x00\x00\x00\x00\x17\x18\x19", "\xc3\xa9\xc3\xa9\xc3\xa9\xc3\xa9\xc3\xa9", "\x1c\x1c\x1c\x1c\x1c\x1c\x1c\x1c\x1c\x1c"} {
			for n := range len(behind) + 1 {
				read(t, string([]byte{byte(first)})+behind[:n])
			}
		}
		read(t, string([]byte{byte(first)})+strings.Repeat("\x5a", 1<<20))
		for second := range 256 {
			read(t, string([]byte{byte(first), byte(second)}))
			read(t, string([]byte{byte(first), byte(second), 0}))
			read(t, string([]byte{byte(first), 0, byte(second)}))
		}
	}
}

// P10.2: what is told, said outright.
func TestReadOfOpenAndWrongHeads(t *testing.T) {
	for major := range 8 {
		for info := 28; info <= 31; info++ {
			first := string([]byte{byte(major*32 + info)})
			for _, behind := range []string{"", "\x00", "\x01\x02\x03\x04\x05\x06\x07\x08\x09", "\xff"} {
				m, i, arg, rest, e := Read(first + behind)
				if info < 31 && (m != 0 || i != 0 || arg != 0 || rest != first+behind || e != api.ErrHead) {
					t.Errorf("Read(%x): %d %d %d %x %v; want ErrHead", first+behind, m, i, arg, rest, e)
				}
				if info == 31 && (m != major || i != 31 || arg != 0 || rest != behind || e != api.OK) {
					t.Errorf("Read(%x): %d %d %d %x %v; want an open head", first+behind, m, i, arg, rest, e)
				}
			}
		}
	}
	for _, s := range []string{"", "\x18", "\x19", "\x19\x01", "\x1a\x00\x00\x00", "\x1b\x00\x00\x00\x00\x00\x00\x00", "\xf8", "\xfb\xff\xff\xff\xff\xff\xff\xff"} {
		if major, info, arg, rest, e := Read(s); major != 0 || info != 0 || arg != 0 || rest != s || e != api.ErrMore {
			t.Errorf("Read(%x): %d %d %d %x %v; want ErrMore", s, major, info, arg, rest, e)
		}
	}
}

// P10.2: a head that is longer than it need be is read all the same.
func TestReadOfLongHeads(t *testing.T) {
	for major := range 8 {
		for _, arg := range edges() {
			short, at := shortestOf(major, arg)
			for _, info := range infos() {
				if IsShort(info, arg) != (info == at) {
					t.Errorf("IsShort(%d, %d): %v", info, arg, IsShort(info, arg))
				}
				s, ok := written(major, info, arg)
				if !ok {
					continue
				}
				if m, i, a, rest, e := Read(s + "x"); m != major || i != info || a != arg || rest != "x" || e != api.OK {
					t.Errorf("Read(%x): %d %d %d %x %v", s, m, i, a, rest, e)
				}
				if IsShort(info, arg) != (len(s) == len(short)) {
					t.Errorf("IsShort(%d, %d): %v, of %x and %x", info, arg, IsShort(info, arg), s, short)
				}
			}
		}
	}
}

// P10.2
func TestIsShort(t *testing.T) {
	for _, x := range []struct {
		info int
		arg  uint64
		want bool
	}{
		{0, 0, true}, {23, 23, true}, {24, 24, true}, {24, 255, true}, {25, 256, true}, {25, 65535, true}, {26, 65536, true}, {26, 1<<32 - 1, true}, {27, 1 << 32, true}, {27, 1<<64 - 1, true},
		{0, 1, false}, {22, 23, false}, {23, 24, false}, {24, 0, false}, {24, 23, false}, {24, 256, false}, {25, 24, false}, {25, 255, false}, {25, 65536, false}, {26, 65535, false}, {26, 1 << 32, false}, {27, 1<<32 - 1, false}, {27, 0, false},
		{28, 28, false}, {29, 29, false}, {30, 30, false}, {31, 0, false}, {31, 31, false}, {32, 32, false}, {-1, 0, false}, {-1, 1<<64 - 1, false}, {0, 1 << 32, false}, {5, 1<<32 + 5, false}, {1<<32 + 5, 5, false}, {1<<32 + 5, 1<<32 + 5, false}, {24 - 256, 24, false}, {24 + 256, 24, false},
	} {
		if got := IsShort(x.info, x.arg); got != x.want {
			t.Errorf("IsShort(%d, %d): %v", x.info, x.arg, got)
		}
	}
}

func FuzzHead(f *testing.F) {
	for _, s := range []string{"", "\x00", "\x17", "\x18\x18", "\x18\x05", "\x19\x01", "\x39\x01\xf4", "\x1c", "\x3e", "\x9f\x01", "\xfb\xff\xff\xff\xff\xff\xff\xff\xff"} {
		f.Add(s, 0, uint64(len(s)))
	}
	f.Fuzz(func(t *testing.T, s string, major int, arg uint64) {
		read(t, s)
		if major >= 0 && major < 8 {
			made(t, major, arg)
		} else if s, e := Make(major, arg); s != "" || e != api.ErrArg {
			t.Fatalf("Make(%d, %d): %x, %v", major, arg, s, e)
		}
	})
}
