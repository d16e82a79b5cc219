package cborw

import (
	"encoding/binary"
	"fmt"
	"math"
	"math/big"
	"math/rand"
	"reflect"
	"slices"
	"strconv"
	"strings"
	"testing"

	"targum/api"
	"targum/cborr"
	"targum/tree"
)

var (
	x400 = strings.Repeat("x", api.MaxText)
	// Two hundred characters of two bytes each.
	e400 = strings.Repeat("\u00e9", api.MaxText/2)
)

func null() api.Node { return api.Node{Kind: api.KindNull} }

func truth(b bool) api.Node { return api.Node{Kind: api.KindBool, B: b} }

func num(digits string, exp int) api.Node {
	return api.Node{Kind: api.KindNum, D: api.Dec{Digits: digits, Exp: exp}}
}

func below(digits string, exp int) api.Node {
	return api.Node{Kind: api.KindNum, D: api.Dec{Neg: true, Digits: digits, Exp: exp}}
}

func one() api.Node { return num("1", 0) }

func textOf(s string) api.Node { return api.Node{Kind: api.KindText, S: s} }

func bytesOf(s string) api.Node { return api.Node{Kind: api.KindBytes, S: s} }

func array(l ...api.Node) api.Node { return api.Node{Kind: api.KindArray, L: l} }

func mapOf(l ...api.Node) api.Node { return api.Node{Kind: api.KindMap, L: l} }

func tag(u uint64, l ...api.Node) api.Node { return api.Node{Kind: api.KindTag, U: u, L: l} }

func simple(u uint64) api.Node { return api.Node{Kind: api.KindSimple, U: u} }

func floating(w int, u uint64) api.Node { return api.Node{Kind: api.KindFloat, W: w, U: u} }

// numbered answers the node of a whole number, as the library knows it.
func numbered(n *big.Int) api.Node {
	d := api.Dec{Neg: n.Sign() < 0, Digits: new(big.Int).Abs(n).String()}
	for len(d.Digits) > 1 && d.Digits[len(d.Digits)-1] == '0' {
		d.Digits, d.Exp = d.Digits[:len(d.Digits)-1], d.Exp+1
	}
	return api.Node{Kind: api.KindNum, D: d}
}

// plus answers the number of an argument, minus that of -1 less it.
func plus(arg uint64) api.Node { return numbered(new(big.Int).SetUint64(arg)) }

func minus(arg uint64) api.Node {
	return numbered(new(big.Int).Not(new(big.Int).SetUint64(arg)))
}

// nested answers a node within as many arrays as are asked for.
func nested(n api.Node, arrays int) api.Node {
	for range arrays {
		n = array(n)
	}
	return n
}

// emptied answers a node whose empty lists are nil.
func emptied(n api.Node) api.Node {
	var l []api.Node
	for _, inner := range n.L {
		l = append(l, emptied(inner))
	}
	n.L = l
	return n
}

func isSame(a, b api.Node) bool { return reflect.DeepEqual(emptied(a), emptied(b)) }

// short answers the beginning of what is too long to be told.
func short(of any) string {
	s := fmt.Sprint(of)
	if len(s) > 200 {
		return s[:200] + ".. (" + strconv.Itoa(len(s)) + ")"
	}
	return s
}

// right asks all calls of a tree that has the plain item.
func right(t *testing.T, n api.Node, want string) {
	t.Helper()
	if s, e := Write(n); s != want || e != api.OK {
		t.Errorf("Write(%s): %.60x, %v; want %.60x", short(n), s, e, want)
	}
	if k, e := Size(n); k != len(want) || e != api.OK {
		t.Errorf("Size(%s): %d, %v; want %d", short(n), k, e, len(want))
	}
	if isKey(n) {
		key(t, n, want)
	} else {
		noKey(t, n)
	}
	readAgain(t, n, want)
}

// isKey tells whether a right leaf may be a key, by its kind and, of numbers, by the library's great ones.
func isKey(n api.Node) bool {
	switch n.Kind {
	case api.KindText, api.KindBytes, api.KindNull, api.KindBool:
		return true
	case api.KindNum:
		whole, ok := new(big.Int).SetString(n.D.Digits+strings.Repeat("0", max(0, n.D.Exp)), 10)
		return ok && n.D.Exp >= 0 && whole.BitLen() <= 64
	}
	return false
}

// key asks for the plain item of a key; noKey, of what is none.
func key(t *testing.T, n api.Node, want string) {
	t.Helper()
	if s, e := Key(n); s != want || e != api.OK {
		t.Errorf("Key(%s): %.60x, %v; want %.60x", short(n), s, e, want)
	}
}

func noKey(t *testing.T, n api.Node) {
	t.Helper()
	if s, e := Key(n); s != "" || e != api.ErrForm {
		t.Errorf("Key: %.60x, %v; want none, %v", s, e, api.ErrForm)
	}
}

// P12.2: what is written is read again as that tree, if it is not too long.
func readAgain(t *testing.T, n api.Node, s string) {
	t.Helper()
	m, e := cborr.Read(s)
	if len(s) > api.MaxDoc {
		if e != api.ErrSize {
			t.Errorf("Read(%.60x): %v", s, e)
		}
		return
	}
	if e != api.OK || !isSame(n, m) {
		t.Errorf("Read(%.60x): %s, %v; want %s", s, short(m), e, short(n))
	}
}

// wrong asks all calls of a tree that has no plain item.
func wrong(t *testing.T, n api.Node, want api.Errno) {
	t.Helper()
	if s, e := Write(n); s != "" || e != want {
		t.Errorf("Write: %.60x, %v; want none, %v", s, e, want)
	}
	if k, e := Size(n); k != 0 || e != want {
		t.Errorf("Size: %d, %v; want 0, %v", k, e, want)
	}
	noKey(t, n)
}

// P12.1
func TestWriteOfLeaves(t *testing.T) {
	for _, x := range []struct {
		n    api.Node
		want string
	}{
		{null(), "\xf6"}, {truth(true), "\xf5"}, {truth(false), "\xf4"},
		{num("0", 0), "\x00"}, {one(), "\x01"}, {num("1", 1), "\x0a"}, {num("23", 0), "\x17"}, {num("24", 0), "\x18\x18"}, {num("1", 2), "\x18\x64"}, {num("255", 0), "\x18\xff"}, {num("256", 0), "\x19\x01\x00"}, {num("65535", 0), "\x19\xff\xff"}, {num("65536", 0), "\x1a\x00\x01\x00\x00"}, {num("1", 6), "\x1a\x00\x0f\x42\x40"}, {num("4294967295", 0), "\x1a\xff\xff\xff\xff"}, {num("4294967296", 0), "\x1b\x00\x00\x00\x01\x00\x00\x00\x00"}, {num("1", 19), "\x1b\x8a\xc7\x23\x04\x89\xe8\x00\x00"}, {num("18446744073709551615", 0), "\x1b\xff\xff\xff\xff\xff\xff\xff\xff"},
		{below("1", 0), "\x20"}, {below("1", 1), "\x29"}, {below("24", 0), "\x37"}, {below("25", 0), "\x38\x18"}, {below("1", 2), "\x38\x63"}, {below("256", 0), "\x38\xff"}, {below("257", 0), "\x39\x01\x00"}, {below("5", 2), "\x39\x01\xf3"}, {below("65536", 0), "\x39\xff\xff"}, {below("65537", 0), "\x3a\x00\x01\x00\x00"}, {below("4294967296", 0), "\x3a\xff\xff\xff\xff"}, {below("4294967297", 0), "\x3b\x00\x00\x00\x01\x00\x00\x00\x00"}, {below("9223372036854775808", 0), "\x3b\x7f\xff\xff\xff\xff\xff\xff\xff"}, {below("18446744073709551615", 0), "\x3b\xff\xff\xff\xff\xff\xff\xff\xfe"},
		{bytesOf(""), "\x40"}, {bytesOf("\xff\x00"), "\x42\xff\x00"}, {bytesOf("\x5f"), "\x41\x5f"}, {bytesOf(x400), "\x59\x01\x90" + x400}, {bytesOf(x400[:23]), "\x57" + x400[:23]}, {bytesOf(x400[:24]), "\x58\x18" + x400[:24]}, {bytesOf(x400[:255]), "\x58\xff" + x400[:255]}, {bytesOf(x400[:256]), "\x59\x01\x00" + x400[:256]}, {bytesOf("\xed\xa0\x80"), "\x43\xed\xa0\x80"},
		{textOf(""), "\x60"}, {textOf("a"), "\x61a"}, {textOf("\u00e9"), "\x62\xc3\xa9"}, {textOf("\U0001f600"), "\x64\xf0\x9f\x98\x80"}, {textOf("\x00\n\""), "\x63\x00\n\""}, {textOf(x400), "\x79\x01\x90" + x400}, {textOf(e400), "\x79\x01\x90" + e400}, {textOf(x400[:23]), "\x77" + x400[:23]}, {textOf(x400[:24]), "\x78\x18" + x400[:24]}, {textOf(e400[:254]), "\x78\xfe" + e400[:254]}, {textOf(e400[:256]), "\x79\x01\x00" + e400[:256]},
		{simple(0), "\xe0"}, {simple(16), "\xf0"}, {simple(19), "\xf3"}, {simple(23), "\xf7"}, {simple(32), "\xf8\x20"}, {simple(255), "\xf8\xff"},
		{floating(16, 0), "\xf9\x00\x00"}, {floating(16, 0x3c00), "\xf9\x3c\x00"}, {floating(16, 0x7e00), "\xf9\x7e\x00"}, {floating(16, 1), "\xf9\x00\x01"}, {floating(16, 0xffff), "\xf9\xff\xff"}, {floating(32, 0), "\xfa\x00\x00\x00\x00"}, {floating(32, 0x3f800000), "\xfa\x3f\x80\x00\x00"}, {floating(32, 0x01020304), "\xfa\x01\x02\x03\x04"}, {floating(32, math.MaxUint32), "\xfa\xff\xff\xff\xff"}, {floating(64, 0), "\xfb\x00\x00\x00\x00\x00\x00\x00\x00"}, {floating(64, 0x0102030405060708), "\xfb\x01\x02\x03\x04\x05\x06\x07\x08"}, {floating(64, math.MaxUint64), "\xfb\xff\xff\xff\xff\xff\xff\xff\xff"}, {floating(64, 23), "\xfb\x00\x00\x00\x00\x00\x00\x00\x17"},
		{array(), "\x80"}, {mapOf(), "\xa0"}, {api.Node{Kind: api.KindArray, L: []api.Node{}}, "\x80"}, {api.Node{Kind: api.KindMap, L: make([]api.Node, 0, 3)}, "\xa0"},
	} {
		right(t, x.n, x.want)
		right(t, array(x.n), "\x81"+x.want)
		right(t, array(x.n, null(), x.n), "\x83"+x.want+"\xf6"+x.want)
		right(t, mapOf(textOf("k"), x.n), "\xa1\x61k"+x.want)
		right(t, tag(0, x.n), "\xc0"+x.want)
		if isKey(x.n) {
			right(t, mapOf(x.n, one()), "\xa1"+x.want+"\x01")
		}
	}
}

// P12.1: the example among them.
func TestWriteOfLists(t *testing.T) {
	for _, x := range []struct {
		n    api.Node
		want string
	}{
		{mapOf(textOf("a"), below("5", 2), one(), bytesOf("")), "\xa2\x61a\x39\x01\xf3\x01\x40"},
		{array(one(), array()), "\x82\x01\x80"}, {array(array(), one()), "\x82\x80\x01"}, {array(array(one())), "\x81\x81\x01"}, {array(array(), array()), "\x82\x80\x80"}, {array(array(one(), num("2", 0)), array(num("3", 0))), "\x82\x82\x01\x02\x81\x03"}, {array(mapOf(), array(), mapOf()), "\x83\xa0\x80\xa0"},
		{mapOf(one(), textOf("a"), truth(false), null()), "\xa2\x01\x61a\xf4\xf6"}, {mapOf(num("2", 0), null(), one(), null()), "\xa2\x02\xf6\x01\xf6"}, {mapOf(textOf("b"), one(), textOf("a"), one(), textOf(""), one()), "\xa3\x61b\x01\x61a\x01\x60\x01"}, {mapOf(textOf("a"), one(), bytesOf("a"), one()), "\xa2\x61a\x01\x41a\x01"}, {mapOf(null(), array(one()), textOf("b"), mapOf(below("1", 0), tag(1, array(truth(true))))), "\xa2\xf6\x81\x01\x61b\xa1\x20\xc1\x81\xf5"}, {mapOf(num("0", 0), null(), below("1", 0), null()), "\xa2\x00\xf6\x20\xf6"},
		{tag(55799, truth(true)), "\xd9\xd9\xf7\xf5"}, {tag(4, array(below("1", 0), num("15", 0))), "\xc4\x82\x20\x0f"}, {tag(1, tag(2, bytesOf("\x01"))), "\xc1\xc2\x41\x01"}, {tag(23, null()), "\xd7\xf6"}, {tag(24, null()), "\xd8\x18\xf6"}, {tag(255, mapOf()), "\xd8\xff\xa0"}, {tag(256, array()), "\xd9\x01\x00\x80"}, {tag(1000, bytesOf("a")), "\xd9\x03\xe8\x41a"}, {tag(1<<32-1, one()), "\xda\xff\xff\xff\xff\x01"}, {tag(math.MaxUint64, simple(23)), "\xdb\xff\xff\xff\xff\xff\xff\xff\xff\xf7"},
	} {
		right(t, x.n, x.want)
		right(t, array(null(), x.n, one()), "\x83\xf6"+x.want+"\x01")
	}
}

// P12.1: at the limits of trees, from inside, and where a head gets longer.
func TestWriteAtLimits(t *testing.T) {
	right(t, nested(null(), 15), strings.Repeat("\x81", 15)+"\xf6")
	keyed, tagged := null(), null()
	for range 15 {
		keyed, tagged = mapOf(null(), keyed), tag(7, tagged)
	}
	right(t, keyed, strings.Repeat("\xa1\xf6", 15)+"\xf6")
	right(t, tagged, strings.Repeat("\xc7", 15)+"\xf6")
	for size, head := range map[int]string{1: "\x81", 22: "\x96", 23: "\x97", 24: "\x98\x18", 255: "\x98\xff", 256: "\x99\x01\x00", 299: "\x99\x01\x2b"} {
		right(t, array(slices.Repeat([]api.Node{null()}, size)...), head+strings.Repeat("\xf6", size))
	}
	var members []api.Node
	pairs := ""
	for i := range 149 {
		members = append(members, plus(uint64(i+24)), one())
		pairs += "\x18" + string([]byte{byte(i + 24)}) + "\x01"
	}
	for size, head := range map[int]string{1: "\xa1", 11: "\xab", 12: "\xac", 23: "\xb7", 24: "\xb8\x18", 128: "\xb8\x80", 149: "\xb8\x95"} {
		right(t, mapOf(members[:2*size]...), head+pairs[:3*size])
	}
	// Items may be longer than such as can be read.
	wide := slices.Repeat([]api.Node{textOf(x400)}, 299)
	right(t, array(wide...), "\x99\x01\x2b"+strings.Repeat("\x79\x01\x90"+x400, 299))
	// The greatest ones that can still be read, and those that are a byte too long.
	for more := range 2 {
		n := array(append(slices.Repeat([]api.Node{textOf(x400)}, 9), textOf(x400[:368+more]), null())...)
		if k, e := Size(n); k != api.MaxDoc+more || e != api.OK {
			t.Error(k, e)
		}
		hold(t, n)
	}
}

// P12.1: arguments about all edges, as numbers, below 0 too, as tags and as bits of floats.
func TestWriteOfAllArguments(t *testing.T) {
	args := []uint64{0, 1, 9, 10, 22, 23, 24, 99, 100, 999, math.MaxUint64 - 1}
	for _, power := range []int{5, 8, 16, 31, 32, 33, 53, 63} {
		args = append(args, 1<<power-2, 1<<power-1, 1<<power, 1<<power+1)
	}
	ten := uint64(1)
	for range 19 {
		ten *= 10
		args = append(args, ten-1, ten, ten+1)
	}
	for _, arg := range args {
		right(t, plus(arg), headOf(api.MajorPlus, arg))
		right(t, minus(arg), headOf(api.MajorMinus, arg))
		right(t, tag(arg, null()), headOf(api.MajorTag, arg)+"\xf6")
		for _, width := range []int{16, 32, 64} {
			hold(t, floating(width, arg<<(64-width)>>(64-width)))
		}
	}
	right(t, plus(math.MaxUint64), "\x1b\xff\xff\xff\xff\xff\xff\xff\xff")
	right(t, tag(math.MaxUint64, null()), "\xdb\xff\xff\xff\xff\xff\xff\xff\xff\xf6")
	wrong(t, minus(math.MaxUint64), api.ErrForm)
	for u := range uint64(256) {
		hold(t, simple(u))
	}
	for first := range uint64(1 << 16) {
		if s, e := Write(floating(16, first)); s != string([]byte{0xf9, byte(first >> 8), byte(first)}) || e != api.OK {
			t.Errorf("%x: %x, %v", first, s, e)
		}
	}
}

// wrongOnes answers trees that are not right, one of them without an end.
func wrongOnes() []api.Node {
	loop := make([]api.Node, 1)
	loop[0] = api.Node{Kind: api.KindArray, L: loop}
	double := null()
	for range 60 {
		double = array(double, double)
	}
	return []api.Node{
		{}, {Kind: -1}, {Kind: 12}, {Kind: 1 << 40}, {Kind: api.KindNull, B: true}, {Kind: api.KindNull, S: "a"}, {Kind: api.KindNull, L: []api.Node{null()}}, {Kind: api.KindBool, U: 1}, {Kind: api.KindText, B: true}, {Kind: api.KindText, S: "a", L: []api.Node{null()}}, {Kind: api.KindBytes, S: "a", W: 16}, {Kind: api.KindArray, S: "a"}, {Kind: api.KindArray, W: 1}, {Kind: api.KindMap, B: true}, {Kind: api.KindNum, D: one().D, B: true},
		{Kind: api.KindNum}, num("", 0), num("01", 0), num("10", 0), num("x", 0), num("0", 1), below("0", 0), num("1", 101), num("1", -101), num(strings.Repeat("9", 101), 0), num("-1", 0), num("1.5", 0), num("\u0661", 0),
		textOf("\xff"), textOf("\xed\xa0\x80"), textOf("\xc0\x80"), textOf("a\xe4\xb8"), textOf(x400 + "x"), textOf(e400 + "x"), bytesOf(x400 + "x"),
		mapOf(one()), mapOf(textOf("a"), one(), textOf("b")), mapOf(textOf("a"), one(), textOf("a"), one()), mapOf(one(), one(), null(), one(), one(), null()), mapOf(textOf("\xff"), one()), mapOf(bytesOf(x400+"x"), one()), mapOf(null(), one(), null(), one()), mapOf(array(), one(), array(), one()),
		tag(1), tag(1, null(), null()), {Kind: api.KindTag, W: 1, L: []api.Node{null()}}, simple(20), simple(21), simple(22), simple(24), simple(31), simple(256), simple(math.MaxUint64), {Kind: api.KindExt, U: 256}, {Kind: api.KindFloat}, floating(8, 0), floating(24, 0), floating(-16, 0), floating(1<<40, 0), floating(16, 1<<16), floating(32, 1<<32),
		nested(null(), 16), nested(array(), 16), nested(mapOf(), 1000), tag(1, nested(null(), 15)), array(slices.Repeat([]api.Node{null()}, 300)...), array(make([]api.Node, 1<<20)...), double, loop[0],
	}
}

// P12.1: what tree.Check tells is told, and nothing else answered.
func TestWriteOfWrongTrees(t *testing.T) {
	ext := api.Node{Kind: api.KindExt}
	for _, n := range wrongOnes() {
		wrong(t, n, api.ErrTree)
		wrong(t, array(n), api.ErrTree)
		wrong(t, tag(1, n), api.ErrTree)
		wrong(t, mapOf(textOf("k"), n), api.ErrTree)
		wrong(t, mapOf(n, textOf("k")), api.ErrTree)
		wrong(t, array(null(), textOf("a"), n, one()), api.ErrTree)
		// What fits no CBOR beside it, ahead or behind, makes no difference.
		wrong(t, array(ext, n), api.ErrTree)
		wrong(t, array(n, ext), api.ErrTree)
	}
}

// P12.1
func TestWriteOfOtherForms(t *testing.T) {
	for _, n := range []api.Node{
		num("15", -1), below("1", -1), num("1", -100), num("18446744073709551616", 0), num("2", 19), num("1", 20), num("1", 100), num(strings.Repeat("9", 100), 0), below("18446744073709551616", 0), below("1", 20), below("2", 19), {Kind: api.KindExt}, {Kind: api.KindExt, U: 100, S: "a"}, {Kind: api.KindExt, U: 255, S: x400},
		mapOf(array(), one()), mapOf(mapOf(), one()), mapOf(tag(1, one()), one()), mapOf(simple(23), one()), mapOf(floating(16, 0x3c00), one()), mapOf(num("15", -1), one()), mapOf(one(), one(), array(), one()),
	} {
		wrong(t, n, api.ErrForm)
		wrong(t, array(n), api.ErrForm)
		wrong(t, tag(1, n), api.ErrForm)
		wrong(t, mapOf(textOf("k"), n), api.ErrForm)
		wrong(t, mapOf(n, one()), api.ErrForm)
		wrong(t, array(null(), textOf("a"), n, one()), api.ErrForm)
		wrong(t, nested(n, 5), api.ErrForm)
	}
}

// P12.1: what is a tree's root by itself need not be a key.
func TestKey(t *testing.T) {
	for s, n := range map[string]api.Node{
		"\x00": num("0", 0), "\x0a": num("1", 1), "\x20": below("1", 0), "\x3b\xff\xff\xff\xff\xff\xff\xff\xfe": below("18446744073709551615", 0), "\x1b\xff\xff\xff\xff\xff\xff\xff\xff": num("18446744073709551615", 0), "\x60": textOf(""), "\x61a": textOf("a"), "\x62\u00e9": textOf("\u00e9"), "\x79\x01\x90" + e400: textOf(e400), "\x40": bytesOf(""), "\x42\xff\x00": bytesOf("\xff\x00"), "\x59\x01\x90" + x400: bytesOf(x400), "\xf4": truth(false), "\xf5": truth(true), "\xf6": null(),
	} {
		key(t, n, s)
	}
	for _, n := range []api.Node{array(), array(one()), mapOf(), mapOf(one(), one()), tag(0, one()), tag(1, textOf("a")), simple(0), simple(23), simple(255), floating(16, 0), floating(32, 0x3f800000), floating(64, 0), {Kind: api.KindExt, S: "a"}, num("15", -1), below("1", -1), num("18446744073709551616", 0), below("18446744073709551616", 0), nested(null(), 15), array(slices.Repeat([]api.Node{null()}, 299)...)} {
		noKey(t, n)
	}
	for _, n := range wrongOnes() {
		noKey(t, n)
	}
}

// What goes through nodes may be left at any of them, and be gone through again.
func TestThroughIsLeft(t *testing.T) {
	nodes := through(array(tag(1, array()), one()), null(), mapOf())
	kinds := []int{api.KindArray, api.KindTag, api.KindArray, api.KindNum, api.KindNull, api.KindMap}
	for most := range len(kinds) + 1 {
		var met []int
		for n := range nodes {
			if len(met) == most {
				break
			}
			met = append(met, n.Kind)
		}
		if !slices.Equal(met, kinds[:most]) {
			t.Errorf("%v; want %v", met, kinds[:most])
		}
	}
}

// headOf answers a shortest head, as the library writes numbers.
func headOf(major int, arg uint64) string {
	first := byte(major * 32)
	switch {
	case arg < 24:
		return string([]byte{first + byte(arg)})
	case arg <= math.MaxUint8:
		return string([]byte{first + 24, byte(arg)})
	case arg <= math.MaxUint16:
		return string(binary.BigEndian.AppendUint16([]byte{first + 25}, uint16(arg)))
	case arg <= math.MaxUint32:
		return string(binary.BigEndian.AppendUint32([]byte{first + 26}, uint32(arg)))
	}
	return string(binary.BigEndian.AppendUint64([]byte{first + 27}, arg))
}

// want answers what Write must answer of a tree that fits, its parts joined.
func want(n api.Node) string {
	inner := ""
	for _, m := range n.L {
		inner += want(m)
	}
	switch n.Kind {
	case api.KindBool:
		return map[bool]string{false: "\xf4", true: "\xf5"}[n.B]
	case api.KindNum:
		whole, _ := new(big.Int).SetString(n.D.Digits+strings.Repeat("0", n.D.Exp), 10)
		if n.D.Neg {
			return headOf(api.MajorMinus, whole.Sub(whole, big.NewInt(1)).Uint64())
		}
		return headOf(api.MajorPlus, whole.Uint64())
	case api.KindFloat:
		s := string(binary.BigEndian.AppendUint64(nil, n.U))
		return map[int]string{16: "\xf9", 32: "\xfa", 64: "\xfb"}[n.W] + s[8-n.W/8:]
	case api.KindText:
		return headOf(api.MajorText, uint64(len(n.S))) + n.S
	case api.KindBytes:
		return headOf(api.MajorBytes, uint64(len(n.S))) + n.S
	case api.KindArray:
		return headOf(api.MajorArray, uint64(len(n.L))) + inner
	case api.KindMap:
		return headOf(api.MajorMap, uint64(len(n.L))/2) + inner
	case api.KindTag:
		return headOf(api.MajorTag, n.U) + inner
	case api.KindSimple:
		return headOf(api.MajorOther, n.U)
	}
	return "\xf6"
}

// hold holds all calls against tree.Check and the joined parts.
func hold(t *testing.T, n api.Node) {
	t.Helper()
	if e := tree.Check(n, api.FormC); e != api.OK {
		wrong(t, n, e)
		return
	}
	right(t, n, want(n))
}

// small answers all trees of at most so many nodes (but keys), of some leaves of each kind, and lists.
func small(nodes int) []api.Node {
	leaves := []api.Node{null(), truth(false), truth(true), num("0", 0), num("24", 0), num("256", 0), below("1", 0), below("25", 0), floating(16, 0), floating(32, 0), floating(64, 0), textOf(""), textOf("a"), textOf("\x00"), bytesOf(""), bytesOf("a"), bytesOf("\x00"), simple(0), simple(32), array(), mapOf()}
	out := slices.Clone(leaves)
	if nodes < 2 {
		return out
	}
	for _, n := range small(nodes - 1) {
		out = append(out, array(n), tag(0, n), tag(24, n), mapOf(null(), n), mapOf(bytesOf("a"), n))
		for _, m := range leaves {
			out = append(out, array(n, m), array(m, n), mapOf(num("0", 0), n, textOf("a"), m), mapOf(textOf("a"), m, num("0", 0), n))
		}
	}
	return out
}

// P12.2: plain items of different trees are different, and none is the beginning of another one.
func TestNoneBeginsAnother(t *testing.T) {
	items := map[string]api.Node{}
	for _, n := range small(3) {
		s, e := Write(n)
		if e != api.OK {
			t.Fatal(n, e)
		}
		if m, known := items[s]; known && !isSame(n, m) {
			t.Errorf("%x: %v and %v", s, n, m)
		}
		items[s] = n
	}
	for s := range items {
		for i := range s {
			if m, known := items[s[:i]]; known {
				t.Errorf("%x is the beginning of %x: %v", s[:i], s, m)
			}
		}
	}
	for _, n := range small(2) {
		hold(t, n)
	}
}

// isLongOpen tells whether a document may have an open array of more than 255 nodes: a tree has at most one that great.
func isLongOpen(n api.Node, s string) bool {
	if n.Kind == api.KindArray && len(n.L) > 255 {
		return strings.Contains(s, "\x9f")
	}
	return slices.ContainsFunc(n.L, func(m api.Node) bool { return isLongOpen(m, s) })
}

// again writes a tree that was read of a document, holds it, and asks whether it has no more bytes.
func again(t *testing.T, s string) {
	t.Helper()
	n, e := cborr.Read(s)
	if e != api.OK {
		return
	}
	hold(t, n)
	most := len(s)
	if isLongOpen(n, s) {
		most++
	}
	if k, e := Size(n); k > most || e != api.OK {
		t.Errorf("%.60x: %d bytes, %v; want at most %d", s, k, e, most)
	}
}

// documents are some that are right, written in many ways.
func documents() []string {
	out := []string{
		"\x00", "\x18\x05", "\x19\x00\x05", "\x1a\x00\x00\x00\x05", "\x1b\x00\x00\x00\x00\x00\x00\x00\x05", "\x38\x00", "\x39\x01\xf3", "\x3b\xff\xff\xff\xff\xff\xff\xff\xfe", "\x40", "\x5f\xff", "\x5f\x41a\x58\x01b\x40\xff", "\x7f\xff", "\x7f\x61\xc3\x61\xa9\xff", "\x78\x01a", "\x7b\x00\x00\x00\x00\x00\x00\x00\x01a", "\x9f\xff", "\x98\x00", "\x9b\x00\x00\x00\x00\x00\x00\x00\x01\x01", "\xbf\xff", "\xb8\x00", "\xbf\x61a\x01\xff", "\xa2\x61a\x39\x01\xf3\x01\x40", "\xc1\xf9\x3c\x00", "\xd8\x01\xf6", "\xdb\x00\x00\x00\x00\x00\x00\x00\x01\xf6",
		"\xf4", "\xf5", "\xf6", "\xf7", "\xe0", "\xf8\x20", "\xf8\xff", "\xf9\x00\x00", "\xfa\x3f\x80\x00\x00", "\xfb\x00\x00\x00\x00\x00\x00\x00\x01", "\x8a\xf6\xf5\xf4\x00\x20\x60\x40\x80\xa0\xe0", "\xa3\x61a\x9f\xbf\xff\xa1\x00\x5f\x42\xff\x00\x40\xff\xff\x20\xc4\x82\x20\x0f\xf5\xf7", strings.Repeat("\x81", 15) + "\x00", strings.Repeat("\x9f", 16) + strings.Repeat("\xff", 16), strings.Repeat("\xbf\x60", 15) + "\xf6" + strings.Repeat("\xff", 15), "\xb8\x03\x01\x02\x00\x01\x20\x01",
		"\x59\x01\x90" + x400, "\x5f\x58\xff" + x400[:255] + "\x58\x91" + x400[:145] + "\xff", "\x5f" + strings.Repeat("\x41x", 400) + "\xff", "\x7f\x78\xfe" + e400[:254] + "\x78\x92" + e400[:146] + "\xff",
	}
	for _, size := range []int{22, 23, 24, 254, 255, 256, 257, 299} {
		out = append(out, "\x9f"+strings.Repeat("\x00", size)+"\xff", "\x99"+string([]byte{byte(size >> 8), byte(size)})+strings.Repeat("\xf6", size), "\x5f\x59"+string([]byte{byte(size >> 8), byte(size)})+x400[:size]+"\xff")
	}
	return out
}

// P12.2: what is read and written has no more bytes.
func TestReadAndWritten(t *testing.T) {
	for _, s := range documents() {
		if _, e := cborr.Read(s); e != api.OK {
			t.Errorf("Read(%.60x): %v", s, e)
		}
		again(t, s)
	}
	// The one that has one byte more, and the next one that has not.
	for size, want := range map[int]int{255: 257, 256: 259, 299: 302} {
		n, e := cborr.Read("\x9f" + strings.Repeat("\x00", size) + "\xff")
		if e != api.OK {
			t.Fatal(e)
		}
		if k, e := Size(n); k != want || e != api.OK {
			t.Error(size, k, e)
		}
	}
}

// source makes trees of the bytes that it is given, and of noughts when they are all taken.
type source struct{ left []byte }

func (s *source) next() int {
	if len(s.left) == 0 {
		return 0
	}
	b := s.left[0]
	s.left = s.left[1:]
	return int(b)
}

func pick[T any](s *source, of ...T) T { return of[s.next()%len(of)] }

// number answers one of any number of binary digits.
func (s *source) number() uint64 {
	u := uint64(0)
	for range s.next() % 9 {
		u = u<<8 | uint64(s.next())
	}
	return u
}

func (s *source) bytes() string {
	return pick(s, "", "a", "b", "c", "\x00\n", "\u00e9\U0001f600", "\xff", string(rune(s.next())), strconv.Itoa(s.next()), x400[:s.next()], x400)
}

// leaf answers a node that may be a key, most times.
func (s *source) leaf() api.Node {
	switch s.next() % 8 {
	case 0:
		return null()
	case 1:
		return truth(s.next()%2 == 1)
	case 2:
		return plus(s.number())
	case 3:
		return minus(s.number())
	case 4:
		return bytesOf(s.bytes())
	case 5:
		return plus(uint64(s.next()))
	case 6:
		return pick(s, num("15", -1), num("1", 20), floating(64, 1), simple(23), api.Node{Kind: s.next() % 13, S: "a"}, one(), one(), one())
	}
	return textOf(s.bytes())
}

func (s *source) tree(depth int) api.Node {
	kind := s.next() % 12
	if depth == 0 {
		kind %= 7
	}
	switch kind {
	case 5:
		return simple(uint64(s.next()))
	case 6:
		w := pick(s, 16, 32, 64)
		return floating(w, s.number()&(math.MaxUint64>>(64-w)))
	case 7, 8:
		n := array()
		for range s.next() % 5 {
			n.L = append(n.L, s.tree(depth-1))
		}
		return n
	case 9:
		n := mapOf()
		for range s.next() % 5 {
			n.L = append(n.L, s.leaf(), s.tree(depth-1))
		}
		return n
	case 10:
		return tag(s.number(), s.tree(depth-1))
	}
	return s.leaf()
}

// P12.1, P12.2
func TestWriteByChance(t *testing.T) {
	chance := rand.New(rand.NewSource(12))
	fits := 0
	for range 20000 {
		data := make([]byte, chance.Intn(200))
		chance.Read(data)
		s := source{data}
		n := s.tree(6)
		hold(t, n)
		if tree.Check(n, api.FormC) == api.OK {
			fits++
			again(t, want(n))
		}
	}
	if fits < 5000 {
		t.Errorf("only %d fit", fits)
	}
	for range 20000 {
		s := []byte(pick(&source{[]byte{byte(chance.Intn(256))}}, documents()...))
		for range chance.Intn(4) {
			s[chance.Intn(len(s))] = byte(chance.Intn(256))
		}
		again(t, string(s))
	}
}

// What is handed in is not written into, nor is its spare room, and the answer is the same again.
func TestNothingIsWrittenInto(t *testing.T) {
	spare := make([]api.Node, 4, 8)
	spare[0], spare[1], spare[2], spare[3] = textOf("a"), array(one(), textOf("b")), bytesOf("b"), tag(1, mapOf(one(), null()))
	kept := tree.Clone(mapOf(spare...))
	for range 2 {
		hold(t, mapOf(spare...))
		hold(t, array(spare...))
		noKey(t, array(spare...))
		wrong(t, mapOf(spare[:3]...), api.ErrTree)
	}
	if !isSame(mapOf(spare...), kept) || !reflect.DeepEqual(spare[4:8], make([]api.Node, 4)) {
		t.Errorf("%v was %v", spare[:8], kept)
	}
}

// FuzzCborw holds the calls against the joined parts, at trees made of any bytes, and at what is read of them.
func FuzzCborw(f *testing.F) {
	for _, s := range documents() {
		f.Add([]byte(s))
	}
	for kind := range byte(12) {
		f.Add([]byte{kind, 2, 3, 4, 5, 6, 7, 8, 9})
	}
	f.Fuzz(func(t *testing.T, data []byte) {
		s := source{data}
		hold(t, s.tree(20))
		again(t, string(data))
	})
}
