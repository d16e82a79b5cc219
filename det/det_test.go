package det

import (
	"encoding/binary"
	"fmt"
	"math"
	"math/big"
	"math/rand"
	"reflect"
	"slices"
	"strconv"
	"strings"
	"testing"

	"targum/api"
	"targum/cborr"
	"targum/cborw"
	"targum/tree"
)

var (
	x400 = strings.Repeat("x", api.MaxText)
	// Two hundred characters of two bytes each.
	e400 = strings.Repeat("\u00e9", api.MaxText/2)
	// The bits of all floats of 16, as those of 64.
	halves = allHalves()
)

func null() api.Node { return api.Node{Kind: api.KindNull} }

func truth(b bool) api.Node { return api.Node{Kind: api.KindBool, B: b} }

func num(digits string, exp int) api.Node {
	return api.Node{Kind: api.KindNum, D: api.Dec{Digits: digits, Exp: exp}}
}

func below(digits string, exp int) api.Node {
	return api.Node{Kind: api.KindNum, D: api.Dec{Neg: true, Digits: digits, Exp: exp}}
}

func one() api.Node { return num("1", 0) }

func textOf(s string) api.Node { return api.Node{Kind: api.KindText, S: s} }

func bytesOf(s string) api.Node { return api.Node{Kind: api.KindBytes, S: s} }

func array(l ...api.Node) api.Node { return api.Node{Kind: api.KindArray, L: l} }

func mapOf(l ...api.Node) api.Node { return api.Node{Kind: api.KindMap, L: l} }

func tag(u uint64, l ...api.Node) api.Node { return api.Node{Kind: api.KindTag, U: u, L: l} }

func simple(u uint64) api.Node { return api.Node{Kind: api.KindSimple, U: u} }

func floating(w int, u uint64) api.Node { return api.Node{Kind: api.KindFloat, W: w, U: u} }

// numbered answers the node of a whole number, as the library knows it.
func numbered(n *big.Int) api.Node {
	d := api.Dec{Neg: n.Sign() < 0, Digits: new(big.Int).Abs(n).String()}
	for len(d.Digits) > 1 && d.Digits[len(d.Digits)-1] == '0' {
		d.Digits, d.Exp = d.Digits[:len(d.Digits)-1], d.Exp+1
	}
	return api.Node{Kind: api.KindNum, D: d}
}

// plus answers the number of an argument, minus that of -1 less it.
func plus(arg uint64) api.Node { return numbered(new(big.Int).SetUint64(arg)) }

func minus(arg uint64) api.Node {
	return numbered(new(big.Int).Not(new(big.Int).SetUint64(arg)))
}

// nested answers a node within as many arrays as are asked for.
func nested(n api.Node, arrays int) api.Node {
	for range arrays {
		n = array(n)
	}
	return n
}

// emptied answers a node whose empty lists are nil.
func emptied(n api.Node) api.Node {
	var l []api.Node
	for _, inner := range n.L {
		l = append(l, emptied(inner))
	}
	n.L = l
	return n
}

func isSame(a, b api.Node) bool { return reflect.DeepEqual(emptied(a), emptied(b)) }

// short answers the beginning of what is too long to be told.
func short(of any) string {
	s := fmt.Sprint(of)
	if len(s) > 200 {
		return s[:200] + ".. (" + strconv.Itoa(len(s)) + ")"
	}
	return s
}

// allHalves answers the bits of 64 of all floats of 16, worked out by the library's arithmetic.
func allHalves() map[uint64]uint64 {
	all := map[uint64]uint64{}
	for half := range uint64(1 << 16) {
		sign, e, f := half>>15, int(half>>10&31), half&1023
		bits := math.Float64bits(math.Ldexp(float64(1024+f), e-25))
		switch e {
		case 0:
			bits = math.Float64bits(math.Ldexp(float64(f), -24))
		case 31:
			bits = 0x7ff<<52 | f<<42
		}
		all[bits|sign<<63] = half
	}
	return all
}

// wideOf answers the bits of 64 of a float of 32 or 64, as the library widens them.
func wideOf(n api.Node) uint64 {
	if n.W == 64 {
		return n.U
	}
	f := math.Float32frombits(uint32(n.U))
	if f != f {
		return n.U>>31<<63 | 0x7ff<<52 | n.U&(1<<23-1)<<29
	}
	return math.Float64bits(float64(f))
}

// leastOf answers a float of its least width: that of 16 which has its bits of 64, or that of 32.
func leastOf(n api.Node) api.Node {
	if n.W == 16 {
		return n
	}
	wide := wideOf(n)
	if half, ok := halves[wide]; ok {
		return floating(16, half)
	}
	f := math.Float64frombits(wide)
	if f != f {
		if wide<<35 == 0 {
			return floating(32, wide>>63<<31|0xff<<23|wide>>29&(1<<23-1))
		}
		return floating(64, wide)
	}
	if float64(float32(f)) == f {
		return floating(32, uint64(math.Float32bits(float32(f))))
	}
	return floating(64, wide)
}

// headOf answers a shortest head, as the library writes numbers.
func headOf(major int, arg uint64) string {
	first := byte(major * 32)
	switch {
	case arg < 24:
		return string([]byte{first + byte(arg)})
	case arg <= math.MaxUint8:
		return string([]byte{first + 24, byte(arg)})
	case arg <= math.MaxUint16:
		return string(binary.BigEndian.AppendUint16([]byte{first + 25}, uint16(arg)))
	case arg <= math.MaxUint32:
		return string(binary.BigEndian.AppendUint32([]byte{first + 26}, uint32(arg)))
	}
	return string(binary.BigEndian.AppendUint64([]byte{first + 27}, arg))
}

// leafOf answers the item of a node that has no list.
func leafOf(n api.Node) string {
	switch n.Kind {
	case api.KindBool:
		return map[bool]string{false: "\xf4", true: "\xf5"}[n.B]
	case api.KindNum:
		whole, _ := new(big.Int).SetString(n.D.Digits+strings.Repeat("0", n.D.Exp), 10)
		if n.D.Neg {
			return headOf(api.MajorMinus, whole.Sub(whole, big.NewInt(1)).Uint64())
		}
		return headOf(api.MajorPlus, whole.Uint64())
	case api.KindFloat:
		s := string(binary.BigEndian.AppendUint64(nil, n.U))
		return map[int]string{16: "\xf9", 32: "\xfa", 64: "\xfb"}[n.W] + s[8-n.W/8:]
	case api.KindText:
		return headOf(api.MajorText, uint64(len(n.S))) + n.S
	case api.KindBytes:
		return headOf(api.MajorBytes, uint64(len(n.S))) + n.S
	case api.KindSimple:
		return headOf(api.MajorOther, n.U)
	}
	return "\xf6"
}

// want answers a tree that fits FormC, settled, and its document: of a map, by the library's map of its members and their items.
func want(n api.Node) (api.Node, string) {
	l, s := []api.Node{}, ""
	switch n.Kind {
	case api.KindArray, api.KindTag:
		for _, inner := range n.L {
			m, item := want(inner)
			l, s = append(l, m), s+item
		}
		if n.Kind == api.KindTag {
			return tag(n.U, l...), headOf(api.MajorTag, n.U) + s
		}
		return array(l...), headOf(api.MajorArray, uint64(len(l))) + s
	case api.KindMap:
		members := map[string][2]api.Node{}
		var items []string
		for i := 0; i < len(n.L); i += 2 {
			item := leafOf(n.L[i])
			members[item] = [2]api.Node{n.L[i], n.L[i+1]}
			items = append(items, item)
		}
		slices.Sort(items)
		for _, key := range items {
			m, item := want(members[key][1])
			l, s = append(l, members[key][0], m), s+key+item
		}
		return mapOf(l...), headOf(api.MajorMap, uint64(len(items))) + s
	case api.KindFloat:
		n = leastOf(n)
	}
	return n, leafOf(n)
}

// settles asks all calls of a tree that is settled as another one, which has the document.
func settles(t *testing.T, n, to api.Node, s string) {
	t.Helper()
	before := emptied(n)
	if m, e := Settle(n); !isSame(m, to) || e != api.OK {
		t.Errorf("Settle(%s): %s, %v; want %s", short(n), short(m), e, short(to))
	}
	if got, e := Write(n); got != s || e != api.OK {
		t.Errorf("Write(%s): %.60x, %v; want %.60x", short(n), got, e, s)
	}
	if got := IsSettled(n); got != isSame(n, to) {
		t.Errorf("IsSettled(%s): %v", short(n), got)
	}
	// P13.3
	if m, e := Settle(to); !isSame(m, to) || e != api.OK || !IsSettled(m) || !IsSettled(to) {
		t.Errorf("Settle(%s): %s, %v; want the same", short(to), short(m), e)
	}
	if got, e := Write(to); got != s || e != api.OK {
		t.Errorf("Write(%s): %.60x, %v; want %.60x", short(to), got, e, s)
	}
	if !reflect.DeepEqual(emptied(n), before) {
		t.Errorf("%s was %s", short(n), short(before))
	}
	reads(t, s, to)
	if plain, e := cborw.Write(n); e != api.OK || plain != s {
		refuses(t, plain, map[bool]api.Errno{false: api.ErrDet, true: api.ErrSize}[len(plain) > api.MaxDoc])
	}
}

// reads asks for the tree of a document, which is settled; refuses, for what is wrong with another one.
func reads(t *testing.T, s string, want api.Node) {
	t.Helper()
	if len(s) > api.MaxDoc {
		refuses(t, s, api.ErrSize)
		return
	}
	if n, e := Read(s); !isSame(n, want) || e != api.OK || !IsSettled(n) {
		t.Errorf("Read(%.60x): %s, %v; want %s", s, short(n), e, short(want))
	}
}

func refuses(t *testing.T, s string, want api.Errno) {
	t.Helper()
	if n, e := Read(s); !reflect.DeepEqual(n, api.Node{}) || e != want {
		t.Errorf("Read(%.60x): %s, %v; want none, %v", s, short(n), e, want)
	}
}

// wrong asks all calls of a tree that can't be settled.
func wrong(t *testing.T, n api.Node, want api.Errno) {
	t.Helper()
	if m, e := Settle(n); !reflect.DeepEqual(m, api.Node{}) || e != want {
		t.Errorf("Settle: %s, %v; want none, %v", short(m), e, want)
	}
	if s, e := Write(n); s != "" || e != want {
		t.Errorf("Write: %.60x, %v; want none, %v", s, e, want)
	}
	if IsSettled(n) {
		t.Error("IsSettled: true")
	}
}

// hold holds all calls against tree.Check and what is wanted of a tree.
func hold(t *testing.T, n api.Node) {
	t.Helper()
	if e := tree.Check(n, api.FormC); e != api.OK {
		wrong(t, n, e)
		return
	}
	m, s := want(n)
	settles(t, n, m, s)
}

// again holds Read against cborr.Read and what is wanted of its tree.
func again(t *testing.T, s string) {
	t.Helper()
	n, e := cborr.Read(s)
	if e != api.OK {
		refuses(t, s, e)
		return
	}
	if m, alone := want(n); alone == s {
		reads(t, s, m)
	} else {
		refuses(t, s, api.ErrDet)
	}
}

// P13.1, P13.2: what has no list, nor a width, is settled as it is.
func TestSettleOfLeaves(t *testing.T) {
	for _, x := range []struct {
		n api.Node
		s string
	}{
		{null(), "\xf6"}, {truth(true), "\xf5"}, {truth(false), "\xf4"}, {num("0", 0), "\x00"}, {one(), "\x01"}, {num("1", 1), "\x0a"}, {num("24", 0), "\x18\x18"}, {num("256", 0), "\x19\x01\x00"}, {num("18446744073709551615", 0), "\x1b\xff\xff\xff\xff\xff\xff\xff\xff"}, {below("1", 0), "\x20"}, {below("5", 2), "\x39\x01\xf3"}, {below("18446744073709551615", 0), "\x3b\xff\xff\xff\xff\xff\xff\xff\xfe"},
		{bytesOf(""), "\x40"}, {bytesOf("\xff\x00"), "\x42\xff\x00"}, {bytesOf(x400), "\x59\x01\x90" + x400}, {textOf(""), "\x60"}, {textOf("a"), "\x61a"}, {textOf(e400), "\x79\x01\x90" + e400}, {simple(0), "\xe0"}, {simple(19), "\xf3"}, {simple(23), "\xf7"}, {simple(32), "\xf8\x20"}, {simple(255), "\xf8\xff"},
		{array(), "\x80"}, {mapOf(), "\xa0"}, {array(mapOf(), array()), "\x82\xa0\x80"}, {api.Node{Kind: api.KindMap, L: []api.Node{}}, "\xa0"}, {tag(4, array(below("1", 0), num("15", 0))), "\xc4\x82\x20\x0f"}, {tag(math.MaxUint64, simple(23)), "\xdb\xff\xff\xff\xff\xff\xff\xff\xff\xf7"}, {array(num("2", 0), one(), num("2", 0)), "\x83\x02\x01\x02"}, {array(textOf("b"), textOf("a")), "\x82\x61b\x61a"},
	} {
		settles(t, x.n, x.n, x.s)
		settles(t, array(x.n, x.n), array(x.n, x.n), "\x82"+x.s+x.s)
		settles(t, tag(0, x.n), tag(0, x.n), "\xc0"+x.s)
		settles(t, mapOf(null(), x.n), mapOf(null(), x.n), "\xa1\xf6"+x.s)
	}
}

// P13.1: each float is narrowed to its least width, wherever it stands.
func TestSettleOfFloats(t *testing.T) {
	for _, x := range []struct {
		n, to api.Node
		s     string
	}{
		{floating(16, 0x3c00), floating(16, 0x3c00), "\xf9\x3c\x00"}, {floating(32, 0x3f800000), floating(16, 0x3c00), "\xf9\x3c\x00"}, {floating(64, 0x3ff0000000000000), floating(16, 0x3c00), "\xf9\x3c\x00"},
		{floating(32, 0), floating(16, 0), "\xf9\x00\x00"}, {floating(64, 0), floating(16, 0), "\xf9\x00\x00"}, {floating(32, 1<<31), floating(16, 1<<15), "\xf9\x80\x00"}, {floating(64, 1<<63), floating(16, 1<<15), "\xf9\x80\x00"},
		{floating(64, 0x7ff0000000000000), floating(16, 0x7c00), "\xf9\x7c\x00"}, {floating(32, 0xff800000), floating(16, 0xfc00), "\xf9\xfc\x00"}, {floating(64, 0x7ff8000000000000), floating(16, 0x7e00), "\xf9\x7e\x00"}, {floating(32, 0x7fc00000), floating(16, 0x7e00), "\xf9\x7e\x00"}, {floating(64, 0xfff8000020000000), floating(32, 0xffc00001), "\xfa\xff\xc0\x00\x01"}, {floating(32, 0x7f800001), floating(32, 0x7f800001), "\xfa\x7f\x80\x00\x01"}, {floating(64, 0x7ff0000000000001), floating(64, 0x7ff0000000000001), "\xfb\x7f\xf0\x00\x00\x00\x00\x00\x01"}, {floating(64, 0x7ff0040000000000), floating(16, 0x7c01), "\xf9\x7c\x01"},
		{floating(64, math.Float64bits(65504)), floating(16, 0x7bff), "\xf9\x7b\xff"}, {floating(64, math.Float64bits(65505)), floating(32, 0x477fe100), "\xfa\x47\x7f\xe1\x00"}, {floating(64, math.Float64bits(100000)), floating(32, 0x47c35000), "\xfa\x47\xc3\x50\x00"}, {floating(64, math.Float64bits(1.1)), floating(64, 0x3ff199999999999a), "\xfb\x3f\xf1\x99\x99\x99\x99\x99\x9a"}, {floating(64, math.Float64bits(0x1p-24)), floating(16, 1), "\xf9\x00\x01"}, {floating(64, math.Float64bits(0x1p-25)), floating(32, 0x33000000), "\xfa\x33\x00\x00\x00"}, {floating(64, math.Float64bits(0x1p-149)), floating(32, 1), "\xfa\x00\x00\x00\x01"}, {floating(64, math.Float64bits(0x1p-150)), floating(64, 0x3690000000000000), "\xfb\x36\x90\x00\x00\x00\x00\x00\x00"}, {floating(64, math.MaxUint64), floating(64, math.MaxUint64), "\xfb\xff\xff\xff\xff\xff\xff\xff\xff"}, {floating(32, math.MaxUint32), floating(32, math.MaxUint32), "\xfa\xff\xff\xff\xff"}, {floating(16, math.MaxUint16), floating(16, math.MaxUint16), "\xf9\xff\xff"},
	} {
		settles(t, x.n, x.to, x.s)
		settles(t, array(one(), x.n, x.n), array(one(), x.to, x.to), "\x83\x01"+x.s+x.s)
		settles(t, tag(1, tag(2, x.n)), tag(1, tag(2, x.to)), "\xc1\xc2"+x.s)
		settles(t, mapOf(textOf("a"), x.n), mapOf(textOf("a"), x.to), "\xa1\x61a"+x.s)
		settles(t, mapOf(textOf("b"), x.n, textOf("a"), array(x.n)), mapOf(textOf("a"), array(x.to), textOf("b"), x.to), "\xa2\x61a\x81"+x.s+"\x61b"+x.s)
		settles(t, nested(x.n, 15), nested(x.to, 15), strings.Repeat("\x81", 15)+x.s)
	}
}

// P13.1: all floats of 16, and of 64 as well.
func TestSettleOfAllHalves(t *testing.T) {
	if len(halves) != 1<<16 {
		t.Fatal(len(halves))
	}
	for wide, half := range halves {
		s := string([]byte{0xf9, byte(half >> 8), byte(half)})
		if got, e := Write(floating(64, wide)); got != s || e != api.OK {
			t.Errorf("%x: %x, %v", wide, got, e)
		}
		if n, e := Settle(floating(64, wide)); n.W != 16 || n.U != half || e != api.OK || IsSettled(floating(64, wide)) {
			t.Errorf("%x: %v, %v", wide, n, e)
		}
		if n, e := Settle(floating(16, half)); n.W != 16 || n.U != half || e != api.OK || !IsSettled(floating(16, half)) {
			t.Errorf("%x: %v, %v", half, n, e)
		}
	}
}

// ordered answers keys, each of which stands ahead of those behind it.
func ordered() []api.Node {
	return []api.Node{
		num("0", 0), one(), num("9", 0), num("1", 1), num("23", 0), num("24", 0), num("1", 2), num("255", 0), num("256", 0), num("1", 3), num("65535", 0), num("65536", 0), num("4294967295", 0), num("4294967296", 0), num("1", 19), num("18446744073709551615", 0),
		below("1", 0), below("2", 0), below("1", 1), below("24", 0), below("25", 0), below("256", 0), below("257", 0), below("5", 2), below("18446744073709551615", 0),
		bytesOf(""), bytesOf("\x00"), bytesOf("a"), bytesOf("\xff"), bytesOf("\x00\x00"), bytesOf("aa"), bytesOf(x400[:23]), bytesOf("\xff" + x400[:22]), bytesOf("\x00" + x400[:23]), bytesOf(x400[:255]), bytesOf("\x00" + x400[:255]), bytesOf(x400),
		textOf(""), textOf("\x00"), textOf("Z"), textOf("a"), textOf("b"), textOf("z"), textOf("AA"), textOf("aa"), textOf("ab"), textOf("ba"), textOf("\u00e9"), textOf("\u0416"), textOf("aaa"), textOf("\ue000"), textOf("\uffff"), textOf("\U0001f600"), textOf(x400[:23]), textOf("a" + x400[:23]), textOf(x400[:24]), textOf(x400[:255]), textOf("A" + x400[:255]), textOf(x400), textOf(e400),
		truth(false), truth(true), null(),
	}
}

// noKeys answers nodes that FormC may not have as keys.
func noKeys() []api.Node {
	loop := make([]api.Node, 1)
	loop[0] = api.Node{Kind: api.KindArray, L: loop}
	return []api.Node{
		{}, {Kind: -1}, {Kind: 12}, {Kind: api.KindExt}, {Kind: api.KindNull, B: true}, {Kind: api.KindText, S: "a", U: 1}, array(), array(one()), mapOf(), mapOf(one(), one()), tag(1, one()), simple(0), simple(23), simple(255), floating(16, 0), floating(32, 0), floating(64, 0), num("15", -1), below("1", -1), num("18446744073709551616", 0), num("1", 20), below("18446744073709551616", 0), num("10", 0), num("", 0), textOf("\xff"), textOf(x400 + "x"), bytesOf(x400 + "x"), nested(null(), 20), loop[0],
	}
}

// P13.1
func TestLess(t *testing.T) {
	keys := ordered()
	for i, a := range keys {
		for j, b := range keys {
			if Less(a, b) != (i < j) {
				t.Errorf("Less(%s, %s): %v", short(a), short(b), i >= j)
			}
		}
		for _, b := range noKeys() {
			if Less(a, b) || Less(b, a) {
				t.Errorf("Less of %s and no key", short(a))
			}
		}
	}
	for _, a := range noKeys() {
		for _, b := range noKeys() {
			if Less(a, b) {
				t.Error("Less of no keys")
			}
		}
	}
}

// P13.1: two pairs of each two keys; the keys alone tell their order.
func TestSettleOfTwoPairs(t *testing.T) {
	keys := ordered()
	for i, a := range keys {
		for j, b := range keys[:i] {
			to := mapOf(b, num(strconv.Itoa(j+1), 0), a, textOf("x"))
			if j%10 == 9 {
				to.L[1] = num(strconv.Itoa((j+1)/10), 1)
			}
			s := "\xa2" + leafOf(b) + leafOf(to.L[1]) + leafOf(a) + "\x61x"
			settles(t, mapOf(to.L[2], to.L[3], to.L[0], to.L[1]), to, s)
			settles(t, to, to, s)
		}
	}
}

// P13.1: the example among them; maps within maps, within arrays, behind tags.
func TestSettleOfMaps(t *testing.T) {
	a, b, aa, ten, yes := textOf("a"), textOf("b"), textOf("aa"), num("1", 1), truth(true)
	for _, x := range []struct {
		n, to api.Node
		s     string
	}{
		{mapOf(b, yes, a, yes, ten, yes), mapOf(ten, yes, a, yes, b, yes), "\xa3\x0a\xf5\x61a\xf5\x61b\xf5"}, {mapOf(b, num("2", 0), a, one()), mapOf(a, one(), b, num("2", 0)), "\xa2\x61a\x01\x61b\x02"}, {mapOf(a, num("2", 0), b, one()), mapOf(a, num("2", 0), b, one()), "\xa2\x61a\x02\x61b\x01"}, {mapOf(aa, one(), b, one()), mapOf(b, one(), aa, one()), "\xa2\x61b\x01\x62aa\x01"}, {mapOf(null(), a, truth(false), b, below("1", 0), null()), mapOf(below("1", 0), null(), truth(false), b, null(), a), "\xa3\x20\xf6\xf4\x61b\xf6\x61a"}, {mapOf(a, null(), bytesOf("a"), yes), mapOf(bytesOf("a"), yes, a, null()), "\xa2\x41a\xf5\x61a\xf6"}, {mapOf(below("1", 0), a, num("0", 0), b), mapOf(num("0", 0), b, below("1", 0), a), "\xa2\x00\x61b\x20\x61a"},
		{mapOf(a, mapOf(b, one(), a, null())), mapOf(a, mapOf(a, null(), b, one())), "\xa1\x61a\xa2\x61a\xf6\x61b\x01"}, {mapOf(b, mapOf(b, one(), a, null()), a, mapOf()), mapOf(a, mapOf(), b, mapOf(a, null(), b, one())), "\xa2\x61a\xa0\x61b\xa2\x61a\xf6\x61b\x01"}, {mapOf(b, a, a, b), mapOf(a, b, b, a), "\xa2\x61a\x61b\x61b\x61a"}, {array(b, a, mapOf(b, b, a, a)), array(b, a, mapOf(a, a, b, b)), "\x83\x61b\x61a\xa2\x61a\x61a\x61b\x61b"}, {tag(5, mapOf(b, one(), a, one())), tag(5, mapOf(a, one(), b, one())), "\xc5\xa2\x61a\x01\x61b\x01"}, {array(mapOf(a, one(), b, one()), mapOf(b, one(), a, one())), array(mapOf(a, one(), b, one()), mapOf(a, one(), b, one())), "\x82\xa2\x61a\x01\x61b\x01\xa2\x61a\x01\x61b\x01"},
		{mapOf(b, array(mapOf(aa, floating(64, 0), b, tag(1, mapOf(yes, one(), ten, one())))), a, one()), mapOf(a, one(), b, array(mapOf(b, tag(1, mapOf(ten, one(), yes, one())), aa, floating(16, 0)))), "\xa2\x61a\x01\x61b\x81\xa2\x61b\xc1\xa2\x0a\x01\xf5\x01\x62aa\xf9\x00\x00"},
	} {
		settles(t, x.n, x.to, x.s)
		settles(t, nested(x.n, 10), nested(x.to, 10), strings.Repeat("\x81", 10)+x.s)
		settles(t, mapOf(null(), x.n, one(), x.n), mapOf(one(), x.to, null(), x.to), "\xa2\x01"+x.s+"\xf6"+x.s)
	}
	deep, to, s := floating(32, 0x3f800000), floating(16, 0x3c00), "\xf9\x3c\x00"
	for range 15 {
		deep, to, s = mapOf(b, deep, a, one()), mapOf(a, one(), b, to), "\xa2\x61a\x01\x61b"+s
	}
	settles(t, deep, to, s)
}

// P13.1: a map of as many pairs as there may be, however they are mixed; the nodes beside it stay as they are.
func TestSettleOfManyPairs(t *testing.T) {
	chance := rand.New(rand.NewSource(13))
	for _, size := range []int{3, 22, 23, 24, 63, 149} {
		order := chance.Perm(size)
		n, to, s := mapOf(), mapOf(), headOf(api.MajorMap, uint64(size))
		for i, k := range order {
			n.L = append(n.L, plus(uint64(k*7)), plus(uint64(k)))
			to.L = append(to.L, plus(uint64(i*7)), plus(uint64(i)))
			s += headOf(0, uint64(i*7)) + headOf(0, uint64(i))
		}
		settles(t, n, to, s)
	}
	keys := ordered()
	var members []api.Node
	for i, k := range chance.Perm(len(keys)) {
		members = append(members, keys[k], plus(uint64(i)))
	}
	hold(t, mapOf(members...))
}

// wrongOnes answers trees that are not right, one of them without an end.
func wrongOnes() []api.Node {
	loop := make([]api.Node, 1)
	loop[0] = api.Node{Kind: api.KindArray, L: loop}
	double := null()
	for range 60 {
		double = array(double, double)
	}
	return []api.Node{
		{}, {Kind: -1}, {Kind: 12}, {Kind: api.KindNull, B: true}, {Kind: api.KindText, B: true}, {Kind: api.KindArray, S: "a"}, {Kind: api.KindNum}, num("01", 0), num("10", 0), below("0", 0), num("1", 101), textOf("\xff"), textOf(x400 + "x"), bytesOf(x400 + "x"),
		mapOf(one()), mapOf(textOf("b"), one(), textOf("a")), mapOf(textOf("a"), one(), textOf("a"), one()), mapOf(textOf("b"), one(), textOf("a"), one(), textOf("b"), null()), mapOf(array(), one(), array(), one()), tag(1), tag(1, null(), null()), simple(20), simple(24), simple(256), {Kind: api.KindExt, U: 256}, {Kind: api.KindFloat}, floating(8, 0), floating(16, 1<<16), floating(32, 1<<32),
		nested(null(), 16), nested(mapOf(), 1000), array(slices.Repeat([]api.Node{null()}, 300)...), mapOf(slices.Repeat([]api.Node{null()}, 1<<20)...), double, loop[0],
	}
}

// P13.1, P13.2: what tree.Check tells is told, and nothing else answered.
func TestSettleOfWrongTrees(t *testing.T) {
	ext := api.Node{Kind: api.KindExt}
	for _, n := range wrongOnes() {
		for _, outer := range []api.Node{n, array(n), tag(1, n), mapOf(textOf("k"), n), mapOf(textOf("b"), one(), textOf("a"), n), array(ext, n), array(n, ext)} {
			wrong(t, outer, api.ErrTree)
		}
	}
	for _, n := range []api.Node{
		ext, {Kind: api.KindExt, U: 100, S: "a"}, num("15", -1), num("18446744073709551616", 0), below("18446744073709551616", 0), num("1", 20), mapOf(array(), one()), mapOf(mapOf(), one()), mapOf(tag(1, one()), one()), mapOf(simple(23), one()), mapOf(floating(16, 0x3c00), one()), mapOf(num("15", -1), one()),
	} {
		for _, outer := range []api.Node{n, array(n), tag(1, n), mapOf(textOf("k"), n), mapOf(textOf("b"), one(), textOf("a"), n), nested(n, 5)} {
			wrong(t, outer, api.ErrForm)
		}
	}
}

// P13.2: documents of CBOR that are not the ones alone.
func TestReadOfOthers(t *testing.T) {
	for _, s := range []string{
		"\x18\x01", "\x18\x17", "\x19\x00\x18", "\x19\x00\xff", "\x1a\x00\x00\xff\xff", "\x1b\x00\x00\x00\x00\xff\xff\xff\xff", "\x38\x00", "\x39\x00\x20", "\x58\x00", "\x58\x01a", "\x59\x00\x18" + x400[:24], "\x78\x01a", "\x7a\x00\x00\x00\x00", "\x98\x00", "\x98\x01\x01", "\x99\x00\x00", "\xb8\x00", "\xb9\x00\x01\x01\x01", "\xd8\x01\x01", "\xd9\x00\xff\x01",
		"\x5f\xff", "\x5f\x41a\xff", "\x7f\xff", "\x7f\x61a\x61b\xff", "\x9f\xff", "\x9f\x01\xff", "\xbf\xff", "\xbf\x61a\x01\xff", "\x81\x9f\xff", "\xa1\x61a\xbf\xff",
		"\xfa\x00\x00\x00\x00", "\xfa\x3f\x80\x00\x00", "\xfa\x7f\x80\x00\x00", "\xfb\x00\x00\x00\x00\x00\x00\x00\x00", "\xfb\x3f\xf0\x00\x00\x00\x00\x00\x00", "\xfb\x7f\xf8\x00\x00\x00\x00\x00\x00", "\xfb\x40\xf8\x6a\x00\x00\x00\x00\x00",
		"\xa2\x61b\x01\x61a\x01", "\xa2\x62aa\x01\x61b\x01", "\xa2\x20\x01\x00\x01", "\xa2\x61a\x01\x41a\x01", "\xa2\xf6\x01\xf5\x01", "\xa2\xf5\x01\xf4\x01", "\xa2\x18\x18\x01\x01\x01", "\xa2\x60\x01\x40\x01", "\xa3\x01\x01\x03\x01\x02\x01", "\xa1\x61a\xa2\x02\x01\x01\x01", "\xc1\xa2\x02\x01\x01\x01", "\x82\xa2\x01\x01\x02\x01\xa2\x02\x01\x01\x01",
	} {
		for _, outer := range []string{s, "\x81" + s, "\xc0" + s, "\xa1\x01" + s, "\x83\x01" + s + "\x02", "\xa2\x01" + s + "\x02\xf6"} {
			refuses(t, outer, api.ErrDet)
			if _, e := cborr.Read(outer); e != api.OK {
				t.Errorf("%x: %v", outer, e)
			}
		}
	}
	// A key too has its shortest head.
	refuses(t, "\xa1\x18\x01\x01", api.ErrDet)
	refuses(t, "\xa1\x78\x01a\x01", api.ErrDet)
	refuses(t, "\xa1\x7f\x61a\xff\x01", api.ErrDet)
	refuses(t, "\xa2\x00\x01\x18\x17\x01", api.ErrDet)
}

// P13.2: what cborr.Read tells comes first.
func TestReadOfNoDocuments(t *testing.T) {
	for _, x := range []struct {
		s string
		e api.Errno
	}{
		{"", api.ErrMore}, {"\x18", api.ErrMore}, {"\x82\x18\x01", api.ErrMore}, {"\xa2\x61b\x01\x61a", api.ErrMore}, {"\x9f", api.ErrMore}, {"\xfb\x3f\xf0", api.ErrMore}, {"\x1c", api.ErrCbor}, {"\xff", api.ErrCbor}, {"\x01\x01", api.ErrCbor}, {"\x18\x01\x01", api.ErrCbor}, {"\x9f\xff\xff", api.ErrCbor}, {"\xf8\x14", api.ErrCbor}, {"\xf8\x1f", api.ErrCbor},
		{"\xa2\x61a\x01\x61a\x01", api.ErrTree}, {"\xa3\x61b\x01\x61a\x01\x61b\x01", api.ErrTree}, {"\xa2\x01\x01\x18\x01\x01", api.ErrTree}, {"\x61\xff", api.ErrTree}, {"\x78\x01\xff", api.ErrTree}, {strings.Repeat("\x81", 16) + "\x01", api.ErrTree}, {strings.Repeat("\x98\x01", 16) + "\x01", api.ErrTree}, {"\x99\x01\x2c" + strings.Repeat("\x18\x01", 300), api.ErrTree}, {"\x59\x01\x91x" + x400, api.ErrTree},
		{"\xa1\x80\x01", api.ErrForm}, {"\xa1\x9f\xff\x01", api.ErrForm}, {"\xa1\xf9\x3c\x00\x01", api.ErrForm}, {"\xa2\xf7\x01\x01\x01", api.ErrForm}, {"\x3b\xff\xff\xff\xff\xff\xff\xff\xff", api.ErrForm}, {"\x82\x18\x01\x3b\xff\xff\xff\xff\xff\xff\xff\xff", api.ErrForm}, {strings.Repeat("\x01", 4001), api.ErrSize}, {strings.Repeat("x", 4001), api.ErrSize},
	} {
		refuses(t, x.s, x.e)
	}
}

// P13.2: documents of as many bytes as may be read, and of one more, which are written all the same.
func TestSettleAtLimits(t *testing.T) {
	for more := range 2 {
		l := append(slices.Repeat([]api.Node{textOf(x400)}, 9), textOf(x400[:364+more]), floating(64, 1<<63), null(), null())
		s, e := Write(array(l...))
		if len(s) != api.MaxDoc+more || e != api.OK {
			t.Error(len(s), e)
		}
		hold(t, array(l...))
	}
	hold(t, nested(null(), 15))
	hold(t, array(slices.Repeat([]api.Node{floating(32, 0)}, 299)...))
	hold(t, array(slices.Repeat([]api.Node{floating(64, 0)}, 299)...))
	// Settled, it is short enough to be read; as it is, it is not.
	hold(t, array(append(slices.Repeat([]api.Node{floating(64, 0)}, 200), slices.Repeat([]api.Node{textOf(x400[:110])}, 23)...)...))
}

// P13.2: all documents of up to two bytes, and all of up to five of a few.
func TestReadOfAllShort(t *testing.T) {
	again(t, "")
	for a := range 256 {
		again(t, string([]byte{byte(a)}))
		for b := range 256 {
			again(t, string([]byte{byte(a), byte(b)}))
		}
	}
	few := "\x00\x01\x18\x20\x40\x41\x5f\x60\x61\x7f\x80\x81\x82\x9f\xa0\xa1\xa2\xbf\xc1\xf5\xf6\xf9\xff"
	for first := range strings.SplitSeq(few, "") {
		for a := range len(few) {
			for b := range len(few) {
				for c := range len(few) {
					again(t, first+string([]byte{few[a], few[b], few[c]}))
				}
			}
		}
	}
}

// P13.2: all maps of two pairs whose keys are made of a few bytes each.
func TestReadOfAllShortMaps(t *testing.T) {
	keys := []string{"\x00", "\x01", "\x17", "\x18\x17", "\x18\x18", "\x18\xff", "\x19\x00\xff", "\x19\x01\x00", "\x20", "\x37", "\x38\x18", "\x40", "\x41\x00", "\x41\x60", "\x42\x00\x00", "\x5f\xff", "\x60", "\x61a", "\x61b", "\x62aa", "\x62ab", "\x78\x01a", "\x7f\xff", "\xf4", "\xf5", "\xf6", "\xf7", "\x80"}
	for _, a := range keys {
		again(t, "\xa1"+a+"\x01")
		for _, b := range keys {
			again(t, "\xa2"+a+"\x01"+b+"\x02")
			for _, c := range keys {
				again(t, "\xa3"+a+"\x01"+b+"\x01"+c+"\x01")
			}
		}
	}
}

// What goes through nodes, or lists, may be left at any of them, and be gone through again.
func TestThroughIsLeft(t *testing.T) {
	nodes := through(array(tag(1, array()), one()), null(), mapOf())
	kinds := []int{api.KindArray, api.KindTag, api.KindArray, api.KindNum, api.KindNull, api.KindMap}
	for most := range len(kinds) + 1 {
		var met []int
		for n := range nodes {
			if len(met) == most {
				break
			}
			met = append(met, n.Kind)
		}
		if !slices.Equal(met, kinds[:most]) {
			t.Errorf("%v; want %v", met, kinds[:most])
		}
	}
	twos := inTwos(1, 2, 3, 4, 5)
	for most := range 3 {
		var met []int
		for a, b := range twos {
			if len(met) == 2*most {
				break
			}
			met = append(met, a, b)
		}
		if !slices.Equal(met, []int{1, 2, 3, 4}[:2*most]) {
			t.Errorf("%v", met)
		}
	}
}

// source makes trees of the bytes that it is given, and of noughts when they are all taken.
type source struct{ left []byte }

func (s *source) next() int {
	if len(s.left) == 0 {
		return 0
	}
	b := s.left[0]
	s.left = s.left[1:]
	return int(b)
}

func pick[T any](s *source, of ...T) T { return of[s.next()%len(of)] }

// number answers one of any number of binary digits.
func (s *source) number() uint64 {
	u := uint64(0)
	for range s.next() % 9 {
		u = u<<8 | uint64(s.next())
	}
	return u
}

func (s *source) bytes() string {
	return pick(s, "", "a", "b", "c", "\x00\n", "\u00e9\U0001f600", "\xff", string(rune(s.next())), strconv.Itoa(s.next()), x400[:s.next()], x400)
}

// leaf answers a node that may be a key, most times.
func (s *source) leaf() api.Node {
	switch s.next() % 8 {
	case 0:
		return null()
	case 1:
		return truth(s.next()%2 == 1)
	case 2:
		return plus(s.number())
	case 3:
		return minus(s.number())
	case 4:
		return bytesOf(s.bytes())
	case 5:
		return plus(uint64(s.next()))
	case 6:
		return pick(s, num("15", -1), num("1", 20), floating(64, 1), simple(23), api.Node{Kind: s.next() % 13, S: "a"}, one(), one(), one())
	}
	return textOf(s.bytes())
}

// float answers one of 32 or 64 whose lowest digits are noughts, often, so that it can be narrowed.
func (s *source) float() api.Node {
	w := pick(s, 32, 64)
	u := s.number() & (math.MaxUint64 >> (64 - w))
	u <<= s.next() % (w - 8)
	return floating(w, u&(math.MaxUint64>>(64-w)))
}

func (s *source) tree(depth int) api.Node {
	kind := s.next() % 13
	if depth == 0 {
		kind %= 7
	}
	switch kind {
	case 5:
		return pick(s, simple(uint64(s.next())), floating(16, s.number()&math.MaxUint16))
	case 6:
		return s.float()
	case 7:
		n := array()
		for range s.next() % 5 {
			n.L = append(n.L, s.tree(depth-1))
		}
		return n
	case 8, 9, 10:
		n := mapOf()
		for range s.next() % 7 {
			n.L = append(n.L, s.leaf(), s.tree(depth-1))
		}
		return n
	case 11:
		return tag(s.number(), s.tree(depth-1))
	}
	return s.leaf()
}

// holdMembers holds that a tree has the same members, settled: each key leads to what it led to.
func holdMembers(t *testing.T, n, m api.Node) {
	t.Helper()
	if n.Kind != m.Kind || len(n.L) != len(m.L) || tree.Count(n) != tree.Count(m) || tree.Depth(n) != tree.Depth(m) {
		t.Errorf("%s was %s", short(m), short(n))
		return
	}
	for i, inner := range n.L {
		at := i
		if n.Kind == api.KindMap {
			if i%2 == 0 {
				continue
			}
			at = 1
			for at < len(m.L) && !isSame(m.L[at-1], n.L[i-1]) {
				at += 2
			}
		}
		if at >= len(m.L) {
			t.Errorf("%s has not the key %s", short(m), short(n.L[i-1]))
			return
		}
		holdMembers(t, inner, m.L[at])
	}
}

// P13.1 to P13.3
func TestDetByChance(t *testing.T) {
	chance := rand.New(rand.NewSource(13))
	fits, settled := 0, 0
	for range 15000 {
		data := make([]byte, chance.Intn(200))
		chance.Read(data)
		s := source{data}
		n := s.tree(6)
		hold(t, n)
		m, e := Settle(n)
		if e != api.OK {
			continue
		}
		fits++
		holdMembers(t, n, m)
		if IsSettled(n) {
			settled++
		}
		if plain, e := Write(n); e == api.OK && len(plain) < 200 {
			b := []byte(plain)
			b[chance.Intn(len(b))] ^= 1 << chance.Intn(8)
			again(t, string(b))
		}
	}
	if fits < 4000 || settled == fits || settled < 500 {
		t.Errorf("%d fit, %d are settled", fits, settled)
	}
}

// P13.1: Less is that order of bytes which the items of two keys have, by chance.
func TestLessByChance(t *testing.T) {
	chance := rand.New(rand.NewSource(131))
	less := 0
	for range 20000 {
		data := make([]byte, 30)
		chance.Read(data)
		s := source{data}
		a, b := s.leaf(), s.leaf()
		fit := tree.Check(mapOf(a, null()), api.FormC) == api.OK && tree.Check(mapOf(b, null()), api.FormC) == api.OK
		want := fit && leafOf(a) < leafOf(b)
		if Less(a, b) != want {
			t.Errorf("Less(%s, %s): %v", short(a), short(b), !want)
		}
		if want {
			less++
		}
	}
	if less < 5000 {
		t.Error(less)
	}
}

// What is handed in is not written into, nor is its spare room, and the answer is the same again.
func TestNothingIsWrittenInto(t *testing.T) {
	spare := make([]api.Node, 4, 8)
	spare[0], spare[1], spare[2], spare[3] = textOf("b"), array(floating(64, 0), textOf("b")), bytesOf("b"), tag(1, mapOf(textOf("z"), null(), one(), null()))
	kept := tree.Clone(mapOf(spare...))
	for range 2 {
		hold(t, mapOf(spare...))
		hold(t, array(spare...))
		wrong(t, mapOf(spare[:3]...), api.ErrTree)
		if Less(mapOf(spare...), spare[0]) {
			t.Error("Less of a map")
		}
	}
	if !isSame(mapOf(spare...), kept) || !reflect.DeepEqual(spare[4:8], make([]api.Node, 4)) {
		t.Errorf("%v was %v", spare[:8], kept)
	}
}

// shred overwrites all lists of a tree, and their spare room.
func shred(n api.Node) {
	for _, inner := range n.L {
		shred(inner)
	}
	l := n.L[:cap(n.L)]
	for i := range l {
		l[i] = api.Node{Kind: 99}
	}
}

// An answer shares no memory with what was handed in, nor one list of it with another one.
func TestSettledSharesNothing(t *testing.T) {
	inner := []api.Node{textOf("b"), one(), textOf("a"), floating(64, 0)}
	for _, n := range []api.Node{mapOf(inner...), array(inner...), array(array(inner...), mapOf(inner...), array(), array()), tag(1, mapOf(inner...)), mapOf(textOf("y"), mapOf(inner...), textOf("x"), mapOf(inner...))} {
		kept := tree.Clone(n)
		settledOne, _ := want(n)
		first, _ := Settle(n)
		second, _ := Settle(n)
		shred(first)
		if !isSame(n, kept) || !isSame(second, settledOne) {
			t.Errorf("%v was %v", n, kept)
		}
		for i := range second.L {
			others := tree.Clone(second)
			shred(second.L[i])
			for j := range second.L {
				if j != i && !isSame(second.L[j], others.L[j]) {
					t.Errorf("%v was %v", second.L[j], others.L[j])
				}
			}
		}
	}
}

// FuzzDet holds the calls against the library's order, at trees made of any bytes, and at what is read of them.
func FuzzDet(f *testing.F) {
	for _, s := range []string{"\xa4\x0a\xa2\x61y\xf5\x61z\xf5\x61b\xf9\x3c\x00\x62aa\xf5\xf5\xf5", "\xa2\x61b\xf5\x61a\xf5", "\x82\xfa\x3f\x80\x00\x00\xfb\x3f\xf1\x99\x99\x99\x99\x99\x9a", "\xbf\x18\x18\x01\x18\x17\x9f\xff\xff", "\xc1\xa2\x20\x00\x41a\xf6"} {
		f.Add([]byte(s))
	}
	for kind := range byte(13) {
		f.Add([]byte{kind, 2, 3, 4, 5, 6, 7, 8, 9})
	}
	f.Fuzz(func(t *testing.T, data []byte) {
		s := source{data}
		hold(t, s.tree(20))
		again(t, string(data))
	})
}
