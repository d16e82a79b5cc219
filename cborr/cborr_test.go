package cborr

import (
	"encoding/binary"
	"math"
	"math/big"
	"math/rand"
	"reflect"
	"slices"
	"strings"
	"testing"

	"targum/api"
	"targum/tree"
)

var (
	x400 = strings.Repeat("x", api.MaxText)
	// Two hundred characters of two bytes each.
	e400 = strings.Repeat("\u00e9", api.MaxText/2)
)

func null() api.Node { return api.Node{Kind: api.KindNull} }

func truth(b bool) api.Node { return api.Node{Kind: api.KindBool, B: b} }

func num(digits string, exp int) api.Node {
	return api.Node{Kind: api.KindNum, D: api.Dec{Digits: digits, Exp: exp}}
}

func below(digits string, exp int) api.Node {
	return api.Node{Kind: api.KindNum, D: api.Dec{Neg: true, Digits: digits, Exp: exp}}
}

func text(s string) api.Node { return api.Node{Kind: api.KindText, S: s} }

func octets(s string) api.Node { return api.Node{Kind: api.KindBytes, S: s} }

func array(l ...api.Node) api.Node { return api.Node{Kind: api.KindArray, L: l} }

func mapOf(l ...api.Node) api.Node { return api.Node{Kind: api.KindMap, L: l} }

func tag(u uint64, n api.Node) api.Node {
	return api.Node{Kind: api.KindTag, U: u, L: []api.Node{n}}
}

func simple(u uint64) api.Node { return api.Node{Kind: api.KindSimple, U: u} }

func floating(w int, u uint64) api.Node { return api.Node{Kind: api.KindFloat, W: w, U: u} }

// emptied answers a node whose empty lists are nil.
func emptied(n api.Node) api.Node {
	var l []api.Node
	for _, inner := range n.L {
		l = append(l, emptied(inner))
	}
	n.L = l
	return n
}

func isSame(a, b api.Node) bool { return reflect.DeepEqual(emptied(a), emptied(b)) }

// written answers a head of an info and an argument, as the library writes numbers.
func written(major int, info int, arg uint64) string {
	out := []byte{byte(major*32 + info)}
	switch info {
	case 24:
		out = append(out, byte(arg))
	case 25:
		out = binary.BigEndian.AppendUint16(out, uint16(arg))
	case 26:
		out = binary.BigEndian.AppendUint32(out, uint32(arg))
	case 27:
		out = binary.BigEndian.AppendUint64(out, arg)
	}
	return string(out)
}

// infosOf answers the infos of all heads that an argument has, the shortest one first.
func infosOf(arg uint64) []int {
	var out []int
	if arg < 24 {
		out = append(out, int(arg))
	}
	for i, most := range []uint64{math.MaxUint8, math.MaxUint16, math.MaxUint32, math.MaxUint64} {
		if arg <= most {
			out = append(out, 24+i)
		}
	}
	return out
}

// lengths answers the heads of a major that say a length, in all ways.
func lengths(major int, length int) []string {
	var out []string
	for _, info := range infosOf(uint64(length)) {
		out = append(out, written(major, info, uint64(length)))
	}
	return out
}

// right holds what is read of a document against its tree, and P11.3 of it.
func right(t *testing.T, s string, want api.Node) {
	t.Helper()
	if n, e := Read(s); e != api.OK || !isSame(n, want) {
		t.Errorf("Read(%.60x): %v, %v; want %v", s, n, e, want)
	}
	begins(t, s, want)
}

// begins holds what is read of an item against its node, whatever stands behind it, and asks for more with fewer bytes.
func begins(t *testing.T, s string, want api.Node) {
	t.Helper()
	for _, behind := range []string{"", "\x00", "\xff", "\x1c", "\x81", s, "\x5f\x41", "\xc3\xa9", strings.Repeat("\x9f", 5000)} {
		if n, rest, e := Item(s + behind); e != api.OK || rest != behind || !isSame(n, want) {
			t.Errorf("Item(%.60x + %.20x): %v, %.20x, %v; want %v", s, behind, n, rest, e, want)
		}
		if behind == "" {
			continue
		}
		e := api.ErrCbor
		if len(s+behind) > 4000 {
			e = api.ErrSize
		}
		refused(t, s+behind, e)
	}
	for i := range len(s) {
		wrong(t, s[:i], api.ErrMore)
	}
}

// wrong holds what Item and Read tell, of what begins with no item, against the error.
func wrong(t *testing.T, s string, want api.Errno) {
	t.Helper()
	if n, rest, e := Item(s); e != want || rest != s || !isSame(n, api.Node{}) {
		t.Errorf("Item(%.60x): %v, %.20x, %v; want none, all, %v", s, n, rest, e, want)
	}
	refused(t, s, want)
}

// refused holds what Read tells against the error.
func refused(t *testing.T, s string, want api.Errno) {
	t.Helper()
	if n, e := Read(s); e != want || !isSame(n, api.Node{}) {
		t.Errorf("Read(%.60x): %v, %v; want none, %v", s, n, e, want)
	}
}

// unfit is an item that is read as a node, but as no document: Read tells the error.
func unfit(t *testing.T, s string, n api.Node, want api.Errno) {
	t.Helper()
	begins(t, s, n)
	refused(t, s, want)
}

// P11.1, P11.2, P11.3: each right one is also cut, and has others behind it.
func TestReadOfNumbers(t *testing.T) {
	for s, want := range map[string]api.Node{
		"\x00": num("0", 0), "\x01": num("1", 0), "\x0a": num("1", 1), "\x17": num("23", 0), "\x18\x18": num("24", 0), "\x18\x64": num("1", 2), "\x18\xff": num("255", 0), "\x19\x01\x00": num("256", 0), "\x19\x03\xe8": num("1", 3), "\x1a\x00\x0f\x42\x40": num("1", 6), "\x1b\x00\x00\x00\xe8\xd4\xa5\x10\x00": num("1", 12), "\x1b\xff\xff\xff\xff\xff\xff\xff\xff": num("18446744073709551615", 0),
		"\x18\x00": num("0", 0), "\x19\x00\x05": num("5", 0), "\x1a\x00\x00\x00\x00": num("0", 0), "\x1b\x00\x00\x00\x00\x00\x00\x00\x17": num("23", 0),
		"\x20": below("1", 0), "\x29": below("1", 1), "\x37": below("24", 0), "\x38\x18": below("25", 0), "\x38\x63": below("1", 2), "\x38\xff": below("256", 0), "\x39\x01\xf3": below("5", 2), "\x39\x03\xe7": below("1", 3), "\x3a\xff\xff\xff\xff": below("4294967296", 0), "\x3b\x7f\xff\xff\xff\xff\xff\xff\xff": below("9223372036854775808", 0), "\x3b\xff\xff\xff\xff\xff\xff\xff\xfe": below("18446744073709551615", 0),
		"\x38\x00": below("1", 0), "\x3b\x00\x00\x00\x00\x00\x00\x00\x00": below("1", 0), "\x3b\x8a\xc7\x23\x04\x89\xe7\xff\xff": below("1", 19),
	} {
		right(t, s, want)
	}
	unfit(t, "\x3b\xff\xff\xff\xff\xff\xff\xff\xff", below("18446744073709551616", 0), api.ErrForm)
	unfit(t, "\x81\x3b\xff\xff\xff\xff\xff\xff\xff\xff", array(below("18446744073709551616", 0)), api.ErrForm)
}

// numbered answers the node of a whole number, as the library knows it.
func numbered(n *big.Int) api.Node {
	d := api.Dec{Neg: n.Sign() < 0, Digits: new(big.Int).Abs(n).String()}
	for len(d.Digits) > 1 && d.Digits[len(d.Digits)-1] == '0' {
		d.Digits, d.Exp = d.Digits[:len(d.Digits)-1], d.Exp+1
	}
	return api.Node{Kind: api.KindNum, D: d}
}

// plus answers the number of an argument, minus that of -1 less it.
func plus(arg uint64) api.Node { return numbered(new(big.Int).SetUint64(arg)) }

func minus(arg uint64) api.Node {
	return numbered(new(big.Int).Not(new(big.Int).SetUint64(arg)))
}

// P11.1: arguments about all edges, in all heads that they have.
func TestReadOfAllHeads(t *testing.T) {
	args := []uint64{0, 1, 9, 10, 22, 23, 24, 99, 100, 999, math.MaxUint64, math.MaxUint64 - 1}
	for _, power := range []int{5, 8, 16, 31, 32, 33, 53, 63} {
		args = append(args, 1<<power-2, 1<<power-1, 1<<power, 1<<power+1)
	}
	ten := uint64(1)
	for range 19 {
		ten *= 10
		args = append(args, ten-1, ten, ten+1)
	}
	for _, arg := range args {
		for _, info := range infosOf(arg) {
			begins(t, written(api.MajorPlus, info, arg), plus(arg))
			begins(t, written(api.MajorMinus, info, arg), minus(arg))
			right(t, written(api.MajorTag, info, arg)+"\xf6", tag(arg, null()))
			if arg < math.MaxUint64 {
				right(t, written(api.MajorPlus, info, arg), plus(arg))
				right(t, written(api.MajorMinus, info, arg), minus(arg))
			}
		}
	}
}

// P11.1, P11.2
func TestReadOfBytesAndTexts(t *testing.T) {
	for s, want := range map[string]api.Node{
		"\x40": octets(""), "\x42\xff\x00": octets("\xff\x00"), "\x41\x5f": octets("\x5f"), "\x41\xff": octets("\xff"), "\x58\x02ab": octets("ab"), "\x59\x00\x01a": octets("a"), "\x5b\x00\x00\x00\x00\x00\x00\x00\x00": octets(""),
		"\x60": text(""), "\x61a": text("a"), "\x62\u00e9": text("\u00e9"), "\x64\U0001f600": text("\U0001f600"), "\x61\x00": text("\x00"), "\x78\x01a": text("a"), "\x7a\x00\x00\x00\x02ab": text("ab"),
		"\x5f\xff": octets(""), "\x7f\xff": text(""), "\x5f\x40\xff": octets(""), "\x5f\x41\xff\xff": octets("\xff"), "\x5f\x42\xff\xff\x41a\x40\x58\x01b\xff": octets("\xff\xffab"), "\x7f\x61a\x60\x61b\xff": text("ab"), "\x7f\x78\x03abc\x79\x00\x01d\xff": text("abcd"), "\x7f\x63\x7f\x61a\xff": text("\x7f\x61a"),
		// A character may be of two chunks: their bytes together are the text.
		"\x7f\x61\xc3\x61\xa9\xff": text("\u00e9"), "\x7f\x62\xf0\x9f\x60\x62\x98\x80\xff": text("\U0001f600"), "\x5f\x41\xc3\x41\xa9\xff": octets("\u00e9"),
	} {
		right(t, s, want)
	}
	for _, length := range []int{0, 1, 22, 23, 24, 255, 256, 399, 400} {
		for _, h := range lengths(api.MajorBytes, length) {
			s := strings.Repeat("\xff", length)
			right(t, h+s, octets(s))
			right(t, "\x5f"+h+s+"\xff", octets(s))
		}
		for _, h := range lengths(api.MajorText, length) {
			right(t, h+x400[:length], text(x400[:length]))
			right(t, "\x7f"+h+x400[:length]+"\xff", text(x400[:length]))
		}
	}
	right(t, "\x79\x01\x90"+e400, text(e400))
	right(t, "\x5f"+strings.Repeat("\x41x", 400)+"\xff", octets(x400))
	right(t, "\x7f"+strings.Repeat("\x60", 3998)+"\xff", text(""))
	for _, s := range []string{"\xff", "\xc3", "\xed\xa0\x80", "\xc0\x80", "\xf4\x90\x80\x80", "a\xa9"} {
		unfit(t, written(api.MajorText, len(s), 0)+s, text(s), api.ErrTree)
		unfit(t, "\x81"+written(api.MajorText, len(s), 0)+s, array(text(s)), api.ErrTree)
		unfit(t, "\x7f"+written(api.MajorText, len(s), 0)+s+"\xff", text(s), api.ErrTree)
		right(t, written(api.MajorBytes, len(s), 0)+s, octets(s))
	}
	for _, s := range []string{x400 + "x", strings.Repeat("x", 3990)} {
		unfit(t, written(api.MajorBytes, 25, uint64(len(s)))+s, octets(s), api.ErrTree)
		unfit(t, written(api.MajorText, 25, uint64(len(s)))+s, text(s), api.ErrTree)
		unfit(t, "\x7f"+written(api.MajorText, 25, uint64(len(s)))+s+"\xff", text(s), api.ErrTree)
	}
	unfit(t, "\x5f\x59\x01\x90"+x400+"\x41x\xff", octets(x400+"x"), api.ErrTree)
}

// P11.1: chunks are of the same major, not open, and nothing else.
func TestReadOfWrongChunks(t *testing.T) {
	for _, open := range []struct {
		s     string
		major int
	}{
		{"\x5f", api.MajorBytes}, {"\x7f", api.MajorText}, {"\x5f\x41a", api.MajorBytes}, {"\x7f\x61a", api.MajorText}, {"\x7f\x60\x78\x01b", api.MajorText}, {"\x81\x5f", api.MajorBytes}, {"\xbf\x7f", api.MajorText}, {"\xc1\x5f\x40", api.MajorBytes},
	} {
		for first := range 255 {
			s := open.s + string([]byte{byte(first)})
			major, info := first/32, first%32
			switch {
			case info > 23 && info < 28:
				// The bytes of a head are missing ahead of whatever its major is.
				wrong(t, s, api.ErrMore)
				wrong(t, s+strings.Repeat("\x00", 1<<(info-24)-1), api.ErrMore)
			case major != open.major || info > 27:
				wrong(t, s, api.ErrCbor)
				wrong(t, s+strings.Repeat("a", 40)+"\xff\xff", api.ErrCbor)
			default:
				wrong(t, s, api.ErrMore)
			}
		}
	}
	for _, s := range []string{"\x5f\x61a\xff", "\x7f\x41a\xff", "\x5f\x5f\xff\xff", "\x7f\x7f\xff\xff", "\x5f\x00\xff", "\x7f\x80\xff", "\x5f\xc1\x41a\xff", "\x5f\xf6\xff", "\x7f\xf6", "\x5f\x41a\x61a", "\x5f\x78\x05", "\x5f\x62", "\x7f\x42", "\x5f\x1c", "\x5f\x41\x1c\xfc"} {
		wrong(t, s, api.ErrCbor)
	}
	for _, s := range []string{"\x5f", "\x7f", "\x5f\x41", "\x5f\x58", "\x5f\x78", "\x7f\x59\x00", "\x5f\xf8", "\x7f\xfb\x00", "\x5f\x18", "\x5f\x41a", "\x5f\x42a", "\x5f\x5b\xff\xff\xff\xff\xff\xff\xff\xff", "\x7f\x7b\x80\x00\x00\x00\x00\x00\x00\x00a"} {
		wrong(t, s, api.ErrMore)
	}
}

// P11.1, P11.2: the example of the document among them.
func TestReadOfArraysAndMaps(t *testing.T) {
	for s, want := range map[string]api.Node{
		"\x80": array(), "\x9f\xff": array(), "\x98\x00": array(), "\x81\x01": array(num("1", 0)), "\x82\x01\x80": array(num("1", 0), array()), "\x9f\x01\x9f\xff\x02\xff": array(num("1", 0), array(), num("2", 0)), "\x83\xf6\xf6\xf6": array(null(), null(), null()), "\x9b\x00\x00\x00\x00\x00\x00\x00\x01\x01": array(num("1", 0)),
		"\x9f\x41\xff\xff": array(octets("\xff")), "\x9f\x18\xff\xff": array(num("255", 0)), "\x9f\x5f\xff\x7f\xff\xff": array(octets(""), text("")), "\x9f\xbf\xff\xa0\xff": array(mapOf(), mapOf()), "\x9f\xc1\xf4\xf8\xff\xff": array(tag(1, truth(false)), simple(255)),
		"\xa0": mapOf(), "\xbf\xff": mapOf(), "\xb8\x00": mapOf(), "\xa1\x01\x61a": mapOf(num("1", 0), text("a")), "\xbf\xf4\xf6\xff": mapOf(truth(false), null()), "\xbf\x61a\x01\xff": mapOf(text("a"), num("1", 0)), "\xa2\x02\x01\x01\x02": mapOf(num("2", 0), num("1", 0), num("1", 0), num("2", 0)), "\xb9\x00\x01\x40\xa0": mapOf(octets(""), mapOf()),
		"\xa1\x61a\x9f\xbf\x61a\xf6\xff\xff": mapOf(text("a"), array(mapOf(text("a"), null()))), "\xbf\x5f\x41a\xff\x9f\xff\xff": mapOf(octets("a"), array()), "\xbf\x41\xff\x41\xff\xff": mapOf(octets("\xff"), octets("\xff")), "\xa2\x41a\x00\x61a\x00": mapOf(octets("a"), num("0", 0), text("a"), num("0", 0)), "\xa2\x00\xf6\x20\xf6": mapOf(num("0", 0), null(), below("1", 0), null()),
		"\xa4\xf4\x00\xf5\x00\xf6\x00\x60\x00": mapOf(truth(false), num("0", 0), truth(true), num("0", 0), null(), num("0", 0), text(""), num("0", 0)), "\xa1\x3b\xff\xff\xff\xff\xff\xff\xff\xfe\x00": mapOf(below("18446744073709551615", 0), num("0", 0)), "\x82\xa1\x01\x02\xa1\x01\x02": array(mapOf(num("1", 0), num("2", 0)), mapOf(num("1", 0), num("2", 0))),
	} {
		right(t, s, want)
	}
	one := num("1", 0)
	for _, size := range []int{0, 1, 22, 23, 24, 255, 256, 299} {
		for _, h := range append(lengths(api.MajorArray, size), "\x9f") {
			s := h + strings.Repeat("\x01", size)
			if h == "\x9f" {
				s += "\xff"
			}
			right(t, s, array(slices.Repeat([]api.Node{one}, size)...))
		}
	}
	var members []api.Node
	pairs := ""
	for i := range 149 {
		members = append(members, plus(uint64(i)), one)
		pairs += written(api.MajorPlus, 24, uint64(i)) + "\x01"
	}
	for _, size := range []int{0, 1, 23, 24, 149} {
		for _, h := range append(lengths(api.MajorMap, size), "\xbf") {
			s := h + pairs[:3*size]
			if h == "\xbf" {
				s += "\xff"
			}
			right(t, s, mapOf(members[:2*size]...))
		}
	}
}

// P11.1
func TestReadOfWrongArraysAndMaps(t *testing.T) {
	for _, s := range []string{"\x81\xff", "\xff", "\xa1\xff", "\xa1\x01\xff", "\xbf\x01\xff", "\xbf\x01\x02\x03\xff", "\x9f\x81\xff", "\x9f\xa1\xff", "\x9f\xa1\x00\xff", "\xbf\x80\x81\xff", "\xc1\xff", "\x9f\xc1\xff\xff", "\x82\x01\xff", "\x9f\x1c", "\x81\x1f", "\xa1\x3f", "\xa1\x01\xdf", "\xa1\xf8\x1f", "\xbf\xf8\x00", "\x9f\xfc", "\x9f\x9f\xff\x3e"} {
		wrong(t, s, api.ErrCbor)
		wrong(t, "\x81"+s, api.ErrCbor)
		wrong(t, s+"\x00\x00", api.ErrCbor)
	}
	for _, s := range []string{"", "\x81", "\x82\x01", "\x82\x80", "\x98", "\x99\x00", "\x98\x18", "\xa1", "\xa1\x01", "\xa2\x01\x02", "\xa2\x01\x02\x03", "\xb8", "\x9f", "\x9f\x01", "\x9f\x9f\xff", "\xbf", "\xbf\x01", "\xbf\x01\x02", "\xbf\xbf\xff", "\xc1", "\xd8", "\xc1\x81", "\x9b\xff\xff\xff\xff\xff\xff\xff\xff", "\xbb\xff\xff\xff\xff\xff\xff\xff\xff\x00", "\x9b\x80\x00\x00\x00\x00\x00\x00\x00", "\x9a\xff\xff\xff\xff\x00\x00", "\x5b\xff\xff\xff\xff\xff\xff\xff\xff", "\x7b\x80\x00\x00\x00\x00\x00\x00\x00x", "\x5a\x80\x00\x00\x00",
		// Twice such an argument is 0, or little, if it wraps round.
		"\xbb\x80\x00\x00\x00\x00\x00\x00\x00", "\xbb\x80\x00\x00\x00\x00\x00\x00\x00\x01\x02\x03", "\xbb\x80\x00\x00\x00\x00\x00\x00\x01\x01\x02", "\xbb\x80\x00\x00\x00\x00\x00\x00\x01\x01\x02\x03\x04",
	} {
		wrong(t, s, api.ErrMore)
		wrong(t, "\x9f\x00"+s, api.ErrMore)
	}
	// The first one from the first byte on is told.
	for _, s := range []string{"\x9b\xff\xff\xff\xff\xff\xff\xff\xff\xff", "\xbb\x80\x00\x00\x00\x00\x00\x00\x00\x1c", "\x82\x1c", "\x82\xff\x58", "\x9f\xf8\x1f\x42", "\xa2\xc1\xff\x18"} {
		wrong(t, s, api.ErrCbor)
	}
	for _, s := range []string{"\x82\x42\xff", "\x42\x1c", "\x9f\x62\xff", "\x59\x1c", "\x1b\xff\xff\xff\xff\xff\xff\xff"} {
		wrong(t, s, api.ErrMore)
	}
}

// P11.1, P11.2: all first bytes by their majors and infos.
func TestReadOfOthers(t *testing.T) {
	for s, want := range map[string]api.Node{
		"\xf4": truth(false), "\xf5": truth(true), "\xf6": null(), "\xf7": simple(23), "\xe0": simple(0), "\xf3": simple(19), "\xf8\x20": simple(32), "\xf8\xff": simple(255), "\xf9\x3c\x00": floating(16, 0x3c00), "\xf9\x7e\x00": floating(16, 0x7e00), "\xf9\x80\x00": floating(16, 0x8000), "\xfa\x3f\x80\x00\x00": floating(32, 0x3f800000), "\xfa\xff\xff\xff\xff": floating(32, 0xffffffff), "\xfb\x00\x00\x00\x00\x00\x00\x00\x01": floating(64, 1), "\xfb\x7f\xf0\x00\x00\x00\x00\x00\x00": floating(64, 0x7ff0000000000000), "\xfb\xff\xff\xff\xff\xff\xff\xff\xff": floating(64, math.MaxUint64),
		"\xc1\x02": tag(1, num("2", 0)), "\xc1\xf9\x3c\x00": tag(1, floating(16, 0x3c00)), "\xd9\xd9\xf7\xf5": tag(55799, truth(true)), "\xd8\x04\x82\x20\x0f": tag(4, array(below("1", 0), num("15", 0))), "\xdb\xff\xff\xff\xff\xff\xff\xff\xff\xc0\x80": tag(math.MaxUint64, tag(0, array())), "\xc2\x5f\xff": tag(2, octets("")),
	} {
		right(t, s, want)
		right(t, "\x81"+s, array(want))
		right(t, "\xbf\x61k"+s+"\xff", mapOf(text("k"), want))
	}
	for u := range uint64(256) {
		s := "\xf8" + string([]byte{byte(u)})
		if u < 32 {
			wrong(t, s, api.ErrCbor)
			wrong(t, "\xc1"+s+"\x00", api.ErrCbor)
		} else {
			right(t, s, simple(u))
		}
		if first := string([]byte{byte(0xe0 + u%32)}); u%32 < 20 {
			right(t, first, simple(u%32))
		}
	}
	for first := range 256 {
		s := string([]byte{byte(first)})
		_, _, e := Item(s)
		isOpen := first%32 == 31
		isNone := first%32 > 27 && first%32 < 31 || isOpen && (first < 0x40 || first > 0xc0)
		isWhole := first%32 < 24 && (first < 0x40 || first > 0xdf) || first == 0x40 || first == 0x60 || first == 0x80 || first == 0xa0
		switch {
		case isNone && e != api.ErrCbor, isWhole && e != api.OK, !isNone && !isWhole && e != api.ErrMore:
			t.Errorf("Item(%x): %v", s, e)
		}
	}
	for _, s := range []string{"\x1f", "\x3f", "\xdf", "\xff", "\xdf\x00", "\x1f\x00\xff", "\x1c", "\x3d", "\x5e", "\x7c", "\x9d", "\xbe", "\xdc", "\xfc", "\xfd", "\xfe", "\x1c\x00\x00\x00\x00\x00\x00\x00\x00"} {
		wrong(t, s, api.ErrCbor)
	}
}

// P11.2: what is told of a node is tree.Check's; what is behind comes ahead of that.
func TestReadOfUnfitTrees(t *testing.T) {
	one, two := num("1", 0), num("2", 0)
	for _, x := range []struct {
		s string
		n api.Node
		e api.Errno
	}{
		{"\xa2\x01\x02\x01\x02", mapOf(one, two, one, two), api.ErrTree}, {"\xa2\x01\x02\x18\x01\x01", mapOf(one, two, one, one), api.ErrTree}, {"\xbf\x61a\x01\x7f\x61a\xff\x02\xff", mapOf(text("a"), one, text("a"), two), api.ErrTree}, {"\x81\xa2\xf4\x01\xf4\x01", array(mapOf(truth(false), one, truth(false), one)), api.ErrTree}, {"\xa2\x80\x01\x9f\xff\x01", mapOf(array(), one, array(), one), api.ErrTree},
		{"\xa1\x80\x01", mapOf(array(), one), api.ErrForm}, {"\xa1\xa0\x01", mapOf(mapOf(), one), api.ErrForm}, {"\xa1\xc1\x01\x01", mapOf(tag(1, one), one), api.ErrForm}, {"\xa1\xf7\x01", mapOf(simple(23), one), api.ErrForm}, {"\xa1\xf9\x00\x00\x01", mapOf(floating(16, 0), one), api.ErrForm}, {"\xc1\xa1\x80\x01", tag(1, mapOf(array(), one)), api.ErrForm}, {"\xa1\x3b\xff\xff\xff\xff\xff\xff\xff\xff\x01", mapOf(below("18446744073709551616", 0), one), api.ErrForm},
		{"\x82\xa1\x80\x01\x61\xff", array(mapOf(array(), one), text("\xff")), api.ErrTree},
	} {
		unfit(t, x.s, x.n, x.e)
	}
}

// P11.2
func TestReadOfManyNodes(t *testing.T) {
	for _, nodes := range []int{298, 299, 300, 301, 1000, 3990} {
		for _, s := range []string{written(api.MajorArray, 25, uint64(nodes)) + strings.Repeat("\xf6", nodes), "\x9f" + strings.Repeat("\xf6", nodes) + "\xff"} {
			n, rest, e := Item(s)
			if e != api.OK || rest != "" || len(n.L) != nodes {
				t.Errorf("Item of %d nodes: %d, %x, %v", nodes, len(n.L), rest, e)
			}
			if nodes > 299 {
				refused(t, s, api.ErrTree)
			} else if n, e := Read(s); e != api.OK || len(n.L) != nodes {
				t.Errorf("Read of %d nodes: %d, %v", nodes, len(n.L), e)
			}
		}
	}
	// There is no limit but the bound of all for Item.
	many := "\x9f" + strings.Repeat("\x00", 1<<18) + "\xff\x01"
	if n, rest, e := Item(many); e != api.OK || rest != "\x01" || len(n.L) != 1<<18 {
		t.Error(len(n.L), rest, e)
	}
	great := strings.Repeat("x", 1<<20)
	if n, rest, e := Item("\x5a\x00\x10\x00\x00" + great + "\x02"); e != api.OK || rest != "\x02" || n.S != great {
		t.Error(len(n.S), rest, e)
	}
	if n, rest, e := Item("\x7f" + strings.Repeat("\x61x", 1<<20) + "\xff\x03"); e != api.OK || rest != "\x03" || n.S != great {
		t.Error(len(n.S), rest, e)
	}
}

// P11.2: how many bytes there are is asked ahead of all else.
func TestReadOfSizes(t *testing.T) {
	unfit(t, "\x59\x0f\x9d"+strings.Repeat("\x00", 3997), octets(strings.Repeat("\x00", 3997)), api.ErrTree)
	wrong(t, strings.Repeat("\x81", 4000), api.ErrTree)
	wrong(t, strings.Repeat("\x5f", 4000), api.ErrCbor)
	for _, s := range []string{strings.Repeat("\x00", 4001), strings.Repeat("\x81", 4001), strings.Repeat("\xff", 4001), strings.Repeat("\x59\xff\xff", 4001), "\x59\x0f\x9e" + strings.Repeat("\x00", 3998), "\x5f" + strings.Repeat("\x40", 3999) + "\xff", "\x9f" + strings.Repeat("\x00", 3999) + "\xff", strings.Repeat("\x1c", 1<<20)} {
		refused(t, s, api.ErrSize)
	}
	right(t, "\x5f"+strings.Repeat("\x40", 3998)+"\xff", octets(""))
	var ten []api.Node
	long := "\x8a"
	for range 9 {
		long += "\x59\x01\x90" + x400
		ten = append(ten, octets(x400))
	}
	right(t, long+"\x79\x01\x71"+x400[:369], array(append(ten, text(x400[:369]))...))
	refused(t, long+"\x79\x01\x72"+x400[:370], api.ErrSize)
}

// wrap is what an item can be within: what is ahead of it there, and behind it.
type wrap struct{ ahead, behind string }

func wraps() []wrap {
	return []wrap{{"\x81", ""}, {"\x9f", "\xff"}, {"\xa1\x01", ""}, {"\xbf\x01", "\xff"}, {"\xc1", ""}, {"\x82\x00", ""}, {"\x98\x02", "\x00"}, {"\x9f\x40\x80", "\x01\xff"}, {"\xa2\x01\x02\x03", ""}, {"\xbf\x7f\xff", "\x61a\x00\xff"}, {"\xdb\x00\x00\x00\x00\x00\x00\x00\x01", ""}}
}

// begun answers an item with what is ahead of it within as many others as are asked for, which are not ended; whole, with what is behind it, too.
func (w wrap) begun(s string, depth int) string { return strings.Repeat(w.ahead, depth) + s }

func (w wrap) whole(s string, depth int) string {
	return w.begun(s, depth) + strings.Repeat(w.behind, depth)
}

// P11.1, P11.2
func TestReadOfDepths(t *testing.T) {
	for _, w := range wraps() {
		for _, s := range []string{"\x00", "\xf6", "\x61a", "\x80", "\x9f\xff", "\xa0", "\xbf\xff", "\xf9\x00\x00", "\x5f\x41a\x41b\xff", "\x7f\xff", "\x7f\x78\x01a\xff"} {
			n, e := Read(w.whole(s, 15))
			if e != api.OK || tree.Depth(n) != 16 {
				t.Errorf("Read of %x within 15 of %x: %v, depth %d", s, w.ahead, e, tree.Depth(n))
			}
			right(t, w.whole(s, 15), n)
			for _, depth := range []int{16, 17, 100} {
				wrong(t, w.whole(s, depth), api.ErrTree)
				wrong(t, w.begun(s, depth), api.ErrTree)
			}
			// What stands behind what is too deep is not looked at.
			wrong(t, w.begun(s, 16)+"\x1c", api.ErrTree)
		}
		// Depth is told at the first byte, whatever it begins.
		for _, s := range []string{"\x18", "\x82\x00", "\x42", "\x5f\x61", "\xf8\x1f", "\xc1\xff", "\x1c", "\x1f"} {
			wrong(t, w.begun(s, 16), api.ErrTree)
		}
		if n, rest, e := Item(strings.Repeat(w.ahead, 1<<16)); e != api.ErrTree || len(rest) != len(w.ahead)<<16 || !isSame(n, api.Node{}) {
			t.Errorf("Item of many %x: %v, %v", w.ahead, n, e)
		}
		wrong(t, w.begun("", 15), api.ErrMore)
		wrong(t, w.begun("\x18", 15), api.ErrMore)
		wrong(t, w.begun("\x1c", 15), api.ErrCbor)
		wrong(t, w.begun("\x81\x00", 15), api.ErrTree)
		wrong(t, w.begun("\xc1\x00", 15), api.ErrTree)
		// The first one from the first byte on is told.
		wrong(t, "\x82\x1c"+w.begun("\x00", 16), api.ErrCbor)
		wrong(t, "\x9f\x61\xff"+w.begun("\x00", 16), api.ErrTree)
		wrong(t, "\xa2\x00\x00\x00"+w.begun("\x00", 16), api.ErrTree)
	}
	// No byte is there to be too deep, but one is missing.
	for _, first := range []string{"\x81", "\x9f", "\xa1", "\xbf", "\xc1"} {
		wrong(t, strings.Repeat("\x81", 15)+first, api.ErrMore)
	}
	// Chunks are within none; an end is no item.
	right(t, strings.Repeat("\x9f", 16)+strings.Repeat("\xff", 16), array(deepest(15)...))
	wrong(t, strings.Repeat("\x9f", 16)+"\x40", api.ErrTree)
	wrong(t, strings.Repeat("\x81", 15)+"\x5f\x61", api.ErrCbor)
	wrong(t, strings.Repeat("\x81", 15)+"\x5f\x41", api.ErrMore)
}

// deepest answers the nodes of an array, as many arrays within one another.
func deepest(arrays int) []api.Node {
	var l []api.Node
	for range arrays {
		l = []api.Node{array(l...)}
	}
	return l
}

// frame is a node that is begun and not ended, and how many items or chunks it still needs.
type frame struct {
	n      api.Node
	isOpen bool
	needs  *big.Int
}

// machine reads bytes by a stack of what is begun and not ended; at the bottom is what needs the one item.
type machine struct {
	s     string
	at    int
	stack []frame
}

// want answers what Item must answer.
func want(s string) (api.Node, string, api.Errno) {
	m := machine{s: s, stack: []frame{{needs: big.NewInt(1)}}}
	for {
		top := &m.stack[len(m.stack)-1]
		switch {
		case !top.isOpen && top.needs.Sign() == 0 && len(m.stack) == 1:
			return top.n.L[0], s[m.at:], api.OK
		case !top.isOpen && top.needs.Sign() == 0:
			m.stack = m.stack[:len(m.stack)-1]
			m.put(top.n)
		default:
			if e := m.step(top); e != api.OK {
				return api.Node{}, s, e
			}
		}
	}
}

// put puts a whole node into the one that is begun.
func (m *machine) put(n api.Node) {
	top := &m.stack[len(m.stack)-1]
	top.n.L = append(top.n.L, n)
	top.needs.Sub(top.needs, big.NewInt(1))
}

// step reads the next head, and what is no item behind it, or an end.
func (m *machine) step(top *frame) api.Errno {
	isChunk := top.n.Kind == api.KindBytes || top.n.Kind == api.KindText
	if m.at == len(m.s) {
		return api.ErrMore
	}
	first := int(m.s[m.at])
	major, info := first/32, first%32
	if top.isOpen && first == 255 && (top.n.Kind != api.KindMap || len(top.n.L)%2 == 0) {
		m.at++
		*top = frame{n: top.n, needs: new(big.Int)}
		return api.OK
	}
	if !isChunk && len(m.stack) > 16 {
		return api.ErrTree
	}
	if info > 27 && info < 31 {
		return api.ErrCbor
	}
	m.at++
	arg := uint64(info)
	if info > 23 && info < 28 {
		size := map[int]int{24: 1, 25: 2, 26: 4, 27: 8}[info]
		if len(m.s)-m.at < size {
			return api.ErrMore
		}
		arg = new(big.Int).SetBytes([]byte(m.s[m.at : m.at+size])).Uint64()
		m.at += size
	}
	if isChunk {
		if info == 31 || major != map[int]int{api.KindBytes: 2, api.KindText: 3}[top.n.Kind] {
			return api.ErrCbor
		}
		if arg > uint64(len(m.s)-m.at) {
			return api.ErrMore
		}
		top.n.S += m.s[m.at : m.at+int(arg)]
		m.at += int(arg)
		return api.OK
	}
	return m.begin(major, info, arg)
}

// begin begins an item of a head, and puts it, if it is whole.
func (m *machine) begin(major, info int, arg uint64) api.Errno {
	isOpen := info == 31
	needs := new(big.Int).SetUint64(arg)
	switch {
	case isOpen && (major < 2 || major > 5), major == 7 && info == 24 && arg < 32:
		return api.ErrCbor
	case major == 0:
		m.put(plus(arg))
	case major == 1:
		m.put(minus(arg))
	case (major == 2 || major == 3) && !isOpen:
		if arg > uint64(len(m.s)-m.at) {
			return api.ErrMore
		}
		m.put(api.Node{Kind: map[int]int{2: api.KindBytes, 3: api.KindText}[major], S: m.s[m.at : m.at+int(arg)]})
		m.at += int(arg)
	case major == 2:
		m.stack = append(m.stack, frame{octets(""), true, new(big.Int)})
	case major == 3:
		m.stack = append(m.stack, frame{text(""), true, new(big.Int)})
	case major == 4:
		m.stack = append(m.stack, frame{array(), isOpen, needs})
	case major == 5:
		m.stack = append(m.stack, frame{mapOf(), isOpen, needs.Lsh(needs, 1)})
	case major == 6:
		m.stack = append(m.stack, frame{api.Node{Kind: api.KindTag, U: arg}, false, big.NewInt(1)})
	case info == 20 || info == 21:
		m.put(truth(info == 21))
	case info == 22:
		m.put(null())
	case info < 25:
		m.put(simple(arg))
	default:
		m.put(floating(map[int]int{25: 16, 26: 32, 27: 64}[info], arg))
	}
	return api.OK
}

// hold holds Item and Read against the machine, and what they answer against P11.3.
func hold(t *testing.T, s string) {
	t.Helper()
	n, rest, e := Item(s)
	wantN, wantRest, wantE := want(s)
	if e != wantE || rest != wantRest || !isSame(n, wantN) {
		t.Errorf("Item(%.60x): %v, %.20x, %v; want %v, %.20x, %v", s, n, rest, e, wantN, wantRest, wantE)
		return
	}
	wantE = told(s, wantN, wantRest, wantE)
	if wantE != api.OK {
		refused(t, s, wantE)
	} else if read, e := Read(s); e != api.OK || !isSame(read, wantN) || tree.Check(read, api.FormC) != api.OK {
		t.Errorf("Read(%.60x): %v, %v; want %v", s, read, e, wantN)
	}
	if e != api.OK {
		return
	}
	item := s[:len(s)-len(rest)]
	if m, behind, e := Item(item + "\xff\x00"); e != api.OK || behind != "\xff\x00" || !isSame(m, n) {
		t.Errorf("Item(%.60x..): %v, %x, %v; want %v", item, m, behind, e, n)
	}
	for i := range item {
		if len(item) < 50 || i%(len(item)/5) == 0 {
			wrong(t, item[:i], api.ErrMore)
		}
	}
}

// told answers the error of Read, of what Item answers.
func told(s string, n api.Node, rest string, e api.Errno) api.Errno {
	switch {
	case len(s) > 4000:
		return api.ErrSize
	case e != api.OK:
		return e
	case rest != "":
		return api.ErrCbor
	}
	return tree.Check(n, api.FormC)
}

// all goes through all texts of at most as many of the given ones as is asked for.
func all(given []string, most int, do func(string)) {
	var grow func(string, int)
	grow = func(s string, room int) {
		do(s)
		if room == 0 {
			return
		}
		for _, g := range given {
			grow(s+g, room-1)
		}
	}
	grow("", most)
}

// P11.1, P11.2, P11.3
func TestReadOfAllShortOnes(t *testing.T) {
	var bytes []string
	for b := range 256 {
		bytes = append(bytes, string([]byte{byte(b)}))
	}
	all(bytes, 2, func(s string) { hold(t, s) })
	all([]string{"\x00", "\x20", "\x41", "\x5f", "\x61", "\x7f", "\x82", "\x9f", "\xa1", "\xbf", "\xc1", "\xf8", "\xff"}, 4, func(s string) { hold(t, s) })
	all([]string{"\x00", "\x40", "\x5f", "\x81", "\x9f", "\xbf", "\xff"}, 6, func(s string) {
		n, rest, e := Item(s)
		if m, behind, f := want(s); e != f || rest != behind || !isSame(n, m) {
			t.Errorf("Item(%x): %v, %x, %v; want %v, %x, %v", s, n, rest, e, m, behind, f)
		}
	})
	// All that can stand within fourteen others.
	ahead := strings.Repeat("\x9f\xc1", 7)
	all([]string{"\x00", "\x18", "\x41", "\x5f", "\x81", "\x9f", "\xa1", "\xbf", "\xc1", "\x1c", "\xff"}, 4, func(s string) { hold(t, ahead+s) })
}

// some are items of many shapes.
func some() []string {
	return []string{
		"\xbf\x61a\x01\xff", "\xc1\xf9\x3c\x00", "\x39\x01\xf3", "\x3b\xff\xff\xff\xff\xff\xff\xff\xff", "\x7f\x61a\x60\x61b\xff", "\x82\x01\x80", "\xd9\xd9\xf7\xf5", "\xa2\x01\x02\x01\x03", "\xa1\x80\x00", "\x8b\xf6\xf5\xf4\x00\x20\x60\x40\x80\xa0\xe0\xf8\xff", "\x9f\xfa\x3f\x80\x00\x00\xfb\x3f\xf0\x00\x00\x00\x00\x00\x00\xff",
		"\xa3\x61a\x9f\xbf\xff\xa1\x00\x5f\x42\xff\x00\x40\xff\xff\x20\xc4\x82\x20\x0f\xf7\xf6", "\xbf\x41\xff\x7f\x62\xc3\xa9\xff\x18\x64\xd8\x20\x63abc\xff", strings.Repeat("\x81", 15) + "\x00", strings.Repeat("\x9f", 16) + strings.Repeat("\xff", 16), strings.Repeat("\xa1\x00", 15) + "\x5f\x41a\xff", strings.Repeat("\xc1", 16) + "\x00", strings.Repeat("\xbf\x60", 14) + "\x81\xf6" + strings.Repeat("\xff", 14),
		"\x99\x01\x2b" + strings.Repeat("\x00", 299), "\x9f" + strings.Repeat("\x00", 300) + "\xff", "\x59\x01\x90" + x400, "\x79\x01\x91" + x400 + "x", "\xb8\x18" + strings.Repeat("\x00\x01", 24), "\x9b\x00\x00\x00\x00\x00\x00\x00\x02\xbb\x00\x00\x00\x00\x00\x00\x00\x01\x1a\x00\x00\x00\x05\x00\xf6",
	}
}

// P11.1, P11.2, P11.3
func TestReadOfSome(t *testing.T) {
	for _, s := range some() {
		hold(t, s)
		hold(t, s+"\x00")
		places := len(s)
		if places > 100 {
			places = 5
		}
		for i := range places {
			hold(t, s[:i]+s[i+1:])
			for b := range 256 {
				hold(t, s[:i]+string([]byte{byte(b)})+s[i+1:])
			}
			for _, b := range []string{"\x00", "\x1c", "\x5f", "\x81", "\x9f", "\xbf", "\xff"} {
				hold(t, s[:i]+b+s[i:])
			}
		}
	}
}

// P11.1, P11.2, P11.3
func TestReadByChance(t *testing.T) {
	random := rand.New(rand.NewSource(11))
	for range 30000 {
		s := []byte(some()[random.Intn(len(some()))])
		for range random.Intn(4) {
			at := random.Intn(len(s) + 1)
			switch random.Intn(4) {
			case 0:
				s = slices.Insert(s, at, byte(random.Intn(256)))
			case 1:
				s = slices.Delete(s, at, min(at+1+random.Intn(3), len(s)))
			case 2:
				s = slices.Insert(s, at, []byte(some()[random.Intn(len(some()))])...)
			case 3:
				other := random.Intn(len(s) + 1)
				s = slices.Insert(s, at, s[min(at, other):max(at, other)]...)
			}
		}
		hold(t, string(s))
	}
}

// madeUp answers an item by chance, of heads of any size and open ones, and its node.
func madeUp(random *rand.Rand, depth int) (string, api.Node) {
	number := random.Uint64() >> random.Intn(64)
	size := random.Intn(4)
	kind := random.Intn(12)
	if depth == 0 {
		kind = random.Intn(8)
	}
	switch kind {
	case 0:
		return anyHead(random, api.MajorPlus, number), plus(number)
	case 1:
		return anyHead(random, api.MajorMinus, number), minus(number)
	case 2, 3:
		s, joined := madeUpBytes(random, kind, size)
		return s, api.Node{Kind: map[int]int{2: api.KindBytes, 3: api.KindText}[kind], S: joined}
	case 4:
		w := 16 << random.Intn(3)
		u := number & (math.MaxUint64 >> (64 - w))
		return written(api.MajorOther, map[int]int{16: 25, 32: 26, 64: 27}[w], u), floating(w, u)
	case 5:
		u := 32 + uint64(random.Intn(224))
		return written(api.MajorOther, 24, u), simple(u)
	case 6:
		u := uint64(random.Intn(20))
		return written(api.MajorOther, int(u), u), simple(u)
	case 7:
		i := random.Intn(4)
		return "\xf4\xf5\xf6\xf7"[i : i+1], []api.Node{truth(false), truth(true), null(), simple(23)}[i]
	case 8, 9:
		s, inner := madeUp(random, depth-1)
		return anyHead(random, api.MajorTag, number) + s, tag(number, inner)
	}
	n := api.Node{Kind: map[int]int{10: api.KindArray, 11: api.KindMap}[kind]}
	inner := ""
	for range size * (kind - 9) {
		s, next := madeUp(random, depth-1)
		inner, n.L = inner+s, append(n.L, next)
	}
	major := kind - 10 + api.MajorArray
	if random.Intn(3) == 0 {
		return written(major, 31, 0) + inner + "\xff", n
	}
	return anyHead(random, major, uint64(size)) + inner, n
}

// anyHead answers one of all heads that an argument has.
func anyHead(random *rand.Rand, major int, arg uint64) string {
	infos := infosOf(arg)
	return written(major, infos[random.Intn(len(infos))], arg)
}

// madeUpBytes answers an item of a major, open or not, and its bytes.
func madeUpBytes(random *rand.Rand, major int, size int) (string, string) {
	piece := func() string { return "ab\u00e9\x00\xff\x5f\xc3"[random.Intn(4):][:random.Intn(5)] }
	if random.Intn(2) == 0 {
		s := piece()
		return anyHead(random, major, uint64(len(s))) + s, s
	}
	s, joined := "", ""
	for range size {
		p := piece()
		s, joined = s+anyHead(random, major, uint64(len(p)))+p, joined+p
	}
	return written(major, 31, 0) + s + "\xff", joined
}

// P11.1, P11.2, P11.3: what is made up is read as it was made.
func TestReadOfWhatIsMadeUp(t *testing.T) {
	for seed := range int64(20000) {
		s, n := madeUp(rand.New(rand.NewSource(seed)), 5)
		if m, rest, e := Item(s); e != api.OK || rest != "" || !isSame(m, n) {
			t.Fatalf("Item(%x): %v, %x, %v; want %v", s, m, rest, e, n)
		}
		hold(t, s)
	}
}

// What is answered shares no list, spare room too, with what else is answered.
func TestReadSharesNothing(t *testing.T) {
	s := "\x86\x83\x01\x02\x03\x9f\x01\x02\x03\xff\xbf\x61a\x01\x61b\x83\x04\x05\x06\xff\xc1\x81\x02\x80\xc1\xa0"
	first, _ := Read(s)
	second, _ := Read(s)
	kept := tree.Clone(second)
	var scribble func(n *api.Node)
	scribble = func(n *api.Node) {
		for i := range n.L {
			scribble(&n.L[i])
		}
		room := n.L[:cap(n.L)]
		for i := range room {
			room[i] = api.Node{Kind: -1}
		}
	}
	for i := range first.L {
		before := tree.Clone(array(first.L[i+1:]...))
		scribble(&first.L[i])
		if !isSame(before, array(first.L[i+1:]...)) {
			t.Errorf("a list is shared with that at %d", i)
		}
	}
	scribble(&first)
	if !isSame(second, kept) {
		t.Error("two answers share a list")
	}
}

func FuzzCborr(f *testing.F) {
	for _, s := range some() {
		f.Add(s)
	}
	f.Fuzz(func(t *testing.T, s string) { hold(t, s) })
}
