package tree

import (
	"math"
	"math/big"
	"math/rand"
	"reflect"
	"slices"
	"strings"
	"testing"
	"unicode/utf8"

	"targum/api"
	"targum/dec"
	"targum/float"
)

const noForm = 99

var (
	x400 = strings.Repeat("x", api.MaxText)
	x401 = x400 + "x"
	// Two hundred characters of two bytes each.
	e400 = strings.Repeat("\u00e9", api.MaxText/2)
)

func null() api.Node { return api.Node{Kind: api.KindNull} }

func truth(b bool) api.Node { return api.Node{Kind: api.KindBool, B: b} }

func decimal(d api.Dec) api.Node { return api.Node{Kind: api.KindNum, D: d} }

func number(neg bool, u uint64) api.Node { return decimal(dec.OfInt(neg, u)) }

func one() api.Node { return number(false, 1) }

func bits(w int, u uint64) api.Node { return api.Node{Kind: api.KindFloat, W: w, U: u} }

func text(s string) api.Node { return api.Node{Kind: api.KindText, S: s} }

func bytes(s string) api.Node { return api.Node{Kind: api.KindBytes, S: s} }

func array(l ...api.Node) api.Node { return api.Node{Kind: api.KindArray, L: l} }

func mapOf(l ...api.Node) api.Node { return api.Node{Kind: api.KindMap, L: l} }

func tag(u uint64, l ...api.Node) api.Node { return api.Node{Kind: api.KindTag, U: u, L: l} }

func simple(u uint64) api.Node { return api.Node{Kind: api.KindSimple, U: u} }

func ext(u uint64, s string) api.Node { return api.Node{Kind: api.KindExt, U: u, S: s} }

// nested answers a node within as many arrays as are asked for.
func nested(n api.Node, arrays int) api.Node {
	for range arrays {
		n = array(n)
	}
	return n
}

// many answers a list of as many numbers as are asked for, no two the same.
func many(count int) []api.Node {
	var l []api.Node
	for i := range count {
		l = append(l, number(false, uint64(i)))
	}
	return l
}

// rightOnes answers right trees of all kinds, at the edges of what each has.
func rightOnes() []api.Node {
	out := []api.Node{
		null(), truth(false), truth(true),
		number(false, 0), one(), number(true, 1), number(false, 10), decimal(api.Dec{Digits: "15", Exp: -1}), decimal(api.Dec{Neg: true, Digits: strings.Repeat("9", 100), Exp: -100}), decimal(api.Dec{Digits: "1", Exp: 100}),
		bits(16, 0), bits(16, 0x3c00), bits(16, 0xffff), bits(32, 0), bits(32, 0x3f800000), bits(32, math.MaxUint32), bits(64, 0), bits(64, 0x3ff0000000000000), bits(64, math.MaxUint64),
		text(""), text("a"), text(x400), text(e400), text("\x00\ufffd\U0010ffff"), bytes(""), bytes("\xff\x00"), bytes(x400), bytes(strings.Repeat("\xff", 400)),
		array(), api.Node{Kind: api.KindArray, L: []api.Node{}}, array(null()), array(null(), null()), array(many(299)...), array(array(many(149)...), array(many(148)...)),
		mapOf(), api.Node{Kind: api.KindMap, L: []api.Node{}}, mapOf(text("a"), null()), mapOf(text("a"), null(), text("b"), null()), mapOf(many(298)...),
		mapOf(text("1"), null(), bytes("1"), null(), one(), null(), bits(16, 1), null(), bits(32, 1), null(), bits(64, 1), null(), simple(1), null(), ext(1, ""), null(), ext(1, "1"), null(), ext(2, ""), null()),
		mapOf(array(), null(), mapOf(), null(), array(null()), null(), array(null(), null()), null(), array(array()), null(), tag(1, null()), null(), tag(2, null()), null(), null(), null(), truth(false), null(), truth(true), null()),
		mapOf(mapOf(mapOf(), one()), array(), mapOf(mapOf(), null()), array()),
		tag(0, null()), tag(1, array(one(), one())), tag(math.MaxUint64, text("")), tag(4, tag(4, tag(4, null()))),
		ext(0, ""), ext(255, x400), ext(127, strings.Repeat("\xff", 400)),
		nested(null(), 15), nested(mapOf(text("a"), null()), 14), nested(tag(1, null()), 14),
	}
	for u := range uint64(256) {
		if u <= 19 || u == 23 || u >= 32 {
			out = append(out, simple(u))
		}
	}
	return out
}

// wrongOnes answers nodes that are no right trees.
func wrongOnes() []api.Node {
	out := []api.Node{
		{}, {Kind: -1}, {Kind: 12}, {Kind: math.MaxInt}, {Kind: math.MinInt}, {Kind: 64 + api.KindNull}, {Kind: -api.KindNull},
		{Kind: api.KindNum}, decimal(api.Dec{Digits: "10"}), decimal(api.Dec{Digits: "01"}), decimal(api.Dec{Neg: true, Digits: "0"}), decimal(api.Dec{Digits: "0", Exp: 1}), decimal(api.Dec{Digits: "1", Exp: 101}), decimal(api.Dec{Digits: "1", Exp: -101}), decimal(api.Dec{Digits: strings.Repeat("9", 101)}), decimal(api.Dec{Digits: "x"}),
		{Kind: api.KindFloat}, bits(0, 1), bits(8, 0), bits(-16, 0), bits(128, 0), bits(math.MinInt, 0), bits(16, 1<<16), bits(16, math.MaxUint64), bits(32, 1<<32),
		text("\xff"), text("a\xc3"), text("\xed\xa0\x80"), text("\xf4\x90\x80\x80"), text(x401), text(e400 + "x"), bytes(x401), ext(1, x401),
		mapOf(null()), mapOf(text("a"), null(), text("b")), mapOf(text("a"), null(), text("a"), null()), mapOf(text("a"), null(), text("b"), null(), text("a"), one()), mapOf(null(), one(), null(), one()),
		mapOf(mapOf(text("a"), one()), null(), mapOf(text("a"), one()), null()), mapOf(array(), null(), api.Node{Kind: api.KindArray, L: []api.Node{}}, null()), mapOf(bits(64, 1<<63), null(), bits(64, 1<<63), null()), mapOf(tag(1, null()), one(), tag(1, null()), one()),
		tag(1), tag(1, null(), null()), {Kind: api.KindTag},
		simple(256), simple(math.MaxUint64), ext(256, ""), ext(math.MaxUint64, ""),
		nested(null(), 16), nested(null(), 17), nested(null(), 299), nested(null(), 1<<16), nested(mapOf(text("a"), null()), 15), nested(tag(1, null()), 15), nested(array(), 16),
		array(many(300)...), array(array(many(149)...), array(many(149)...)), mapOf(many(300)...), mapOf(many(1 << 20)...),
	}
	for _, u := range []uint64{20, 21, 22, 24, 25, 26, 27, 28, 29, 30, 31} {
		out = append(out, simple(u))
	}
	return out
}

// fieldsOf tells, of each kind, which fields it has.
var fieldsOf = map[int]string{
	api.KindNull: "", api.KindBool: "B", api.KindNum: "D", api.KindFloat: "WU", api.KindText: "S", api.KindBytes: "S",
	api.KindArray: "L", api.KindMap: "L", api.KindTag: "UL", api.KindSimple: "U", api.KindExt: "US",
}

// withField answers a node with something in a field that has nothing yet.
func withField(n api.Node, field string) api.Node {
	switch field {
	case "B":
		n.B = true
	case "D":
		n.D = api.Dec{Digits: "1"}
	case "U":
		n.U = 1
	case "W":
		n.W = 16
	case "S":
		n.S = "x"
	case "L":
		n.L = []api.Node{null(), null()}
	}
	return n
}

// wantKind tells whether a node is right without its list, worked out with the library.
func wantKind(n api.Node) bool {
	has, ok := fieldsOf[n.Kind]
	value := reflect.ValueOf(n)
	for _, field := range []string{"B", "D", "U", "W", "S"} {
		ok = ok && (strings.Contains(has, field) || value.FieldByName(field).IsZero())
	}
	if !ok || !strings.Contains(has, "L") && len(n.L) > 0 || len(n.S) > 400 {
		return false
	}
	switch n.Kind {
	case api.KindNum:
		return dec.Right(n.D)
	case api.KindFloat:
		return slices.Contains([]int{16, 32, 64}, n.W) && big.NewInt(0).SetUint64(n.U).BitLen() <= n.W
	case api.KindText:
		return utf8.ValidString(n.S)
	case api.KindTag:
		return len(n.L) == 1
	case api.KindSimple:
		return n.U <= 255 && !slices.Contains([]uint64{20, 21, 22, 24, 25, 26, 27, 28, 29, 30, 31}, n.U)
	case api.KindExt:
		return n.U <= 255
	case api.KindMap:
		for i := range n.L {
			for j := range i {
				if i%2 == 0 && j%2 == 0 && wantSame(n.L[i], n.L[j]) {
					return false
				}
			}
		}
		return len(n.L)%2 == 0
	}
	return true
}

// wantSame holds nodes against each other as the library does, empty lists as none.
func wantSame(a, b api.Node) bool {
	return reflect.DeepEqual(emptied(a), emptied(b))
}

// emptied answers a node whose empty lists are nil, by a way of its own.
func emptied(n api.Node) api.Node {
	var l []api.Node
	for _, inner := range n.L {
		l = append(l, emptied(inner))
	}
	n.L = l
	return n
}

// want answers how many nodes a tree has, how deep it is, and whether each one is right.
func want(n api.Node) (count int, depth int, right bool) {
	right = wantKind(n)
	for _, inner := range n.L {
		c, d, r := want(inner)
		count, depth, right = count+c, max(depth, d), right && r
	}
	return count + 1, depth + 1, right
}

// wantFits tells whether a right tree fits a form, each form by itself.
func wantFits(n api.Node, form int) bool {
	_, size, whole := dec.ToInt(n.D)
	var fits bool
	switch form {
	case api.FormJ:
		fits = slices.Contains([]int{api.KindNull, api.KindBool, api.KindNum, api.KindText, api.KindArray, api.KindMap}, n.Kind)
	case api.FormC:
		fits = n.Kind != api.KindExt && (n.Kind != api.KindNum || whole)
	case api.FormD:
		wide, _ := float.Widen(n.U, n.W)
		fits = wantFits(api.Node{Kind: n.Kind, D: n.D}, api.FormC) && (n.Kind != api.KindFloat || float.Least(wide) == n.W)
	case api.FormM:
		fits = n.Kind != api.KindTag && n.Kind != api.KindSimple && (n.Kind != api.KindFloat || n.W > 16) && (n.Kind != api.KindNum || whole && (!n.D.Neg || size <= 1<<63))
	}
	for i, inner := range n.L {
		fits = fits && wantFits(inner, form)
		if n.Kind == api.KindMap && i%2 == 0 {
			_, _, whole := dec.ToInt(inner.D)
			fits = fits && (inner.Kind == api.KindText || form != api.FormJ && (inner.Kind == api.KindBytes || inner.Kind == api.KindBool || inner.Kind == api.KindNull || inner.Kind == api.KindNum && whole))
		}
	}
	return fits
}

// ask holds all calls against what is wanted of a node.
func ask(t *testing.T, n api.Node) {
	t.Helper()
	count, depth, right := want(n)
	right = right && count <= 300 && depth <= 16
	if Count(n) != count || Depth(n) != depth || Right(n) != right {
		t.Errorf("%v: %d, %d, %v; want %d, %d, %v", n, Count(n), Depth(n), Right(n), count, depth, right)
	}
	for _, form := range []int{api.FormJ, api.FormC, api.FormD, api.FormM, 0, -1, 5, noForm, math.MinInt, math.MaxInt} {
		e := api.OK
		if !right {
			e = api.ErrTree
		} else if !wantFits(n, form) {
			e = api.ErrForm
		}
		if got := Check(n, form); got != e {
			t.Errorf("Check(%v, %d): %d; want %d", n, form, got, e)
		}
	}
	clone := Clone(n)
	if !wantSame(n, clone) || !Same(n, clone) || !Same(clone, n) || !Same(n, n) {
		t.Errorf("Clone(%v): %v", n, clone)
	}
}

// P6.1
func TestRight(t *testing.T) {
	for _, n := range rightOnes() {
		if !Right(n) {
			t.Errorf("%v is right", n)
		}
		ask(t, n)
	}
	for _, n := range wrongOnes() {
		if Right(n) {
			t.Errorf("%v is not right", n)
		}
		if Count(n) < 1000 {
			ask(t, n)
		}
	}
}

// P6.1: a field that a kind does not have makes it wrong, whatever it holds.
func TestRightOfOtherFields(t *testing.T) {
	for _, n := range rightOnes() {
		for _, field := range []string{"B", "D", "U", "W", "S", "L"} {
			if strings.Contains(fieldsOf[n.Kind], field) {
				continue
			}
			more := withField(n, field)
			if Right(more) || Right(array(more)) || Same(n, more) || Same(more, n) {
				t.Errorf("%v has a field too many", more)
			}
			ask(t, more)
		}
	}
	for _, d := range []api.Dec{{Neg: true}, {Exp: 1}, {Digits: "0"}} {
		if Right(api.Node{Kind: api.KindNull, D: d}) {
			t.Errorf("null with %v", d)
		}
	}
	for _, kind := range []int{api.KindNull, api.KindBool, api.KindNum, api.KindFloat, api.KindText, api.KindBytes, api.KindSimple, api.KindExt} {
		ask(t, api.Node{Kind: kind, D: one().D, L: []api.Node{}})
		ask(t, api.Node{Kind: kind, L: []api.Node{{}}})
	}
}

// P6.1, P6.2: of what is within, wherever it stands.
func TestWrongPartsWithin(t *testing.T) {
	for _, n := range wrongOnes() {
		if Count(n) > 1000 {
			continue
		}
		for _, outer := range []api.Node{array(n), array(null(), n, null()), mapOf(text("a"), n), mapOf(n, null()), mapOf(text("a"), null(), n, null()), tag(1, n), nested(n, 5)} {
			if Right(outer) {
				t.Errorf("%v is not right", outer)
			}
			ask(t, outer)
		}
	}
}

// P6.1: trees that have no end, or as many nodes as double at each step, are refused soon.
func TestRightOfTooMany(t *testing.T) {
	loop := make([]api.Node, 1)
	loop[0] = api.Node{Kind: api.KindArray, L: loop}
	double := null()
	for range 60 {
		double = array(double, double)
	}
	flat := array(make([]api.Node, 1<<20)...)
	for _, n := range []api.Node{loop[0], double, flat} {
		if Right(n) || Check(n, api.FormC) != api.ErrTree || Check(n, noForm) != api.ErrTree {
			t.Error("is not right")
		}
	}
}

// P6.1: the example, and edges of size; of wrong nodes too.
func TestCountDepth(t *testing.T) {
	for _, x := range []struct {
		n            api.Node
		count, depth int
	}{
		{api.Node{}, 1, 1}, {null(), 1, 1}, {array(), 1, 1}, {tag(1, array(one(), one())), 4, 3},
		{mapOf(text("a"), array(null())), 4, 3}, {mapOf(array(array()), null()), 4, 3}, {array(array(), nested(null(), 3), array()), 7, 5},
		{array(many(299)...), 300, 2}, {array(many(300)...), 301, 2}, {nested(null(), 15), 16, 16}, {nested(null(), 16), 17, 17}, {nested(null(), 1<<16-1), 1 << 16, 1 << 16},
		{api.Node{Kind: api.KindNull, L: many(5)}, 6, 2}, {api.Node{Kind: noForm, L: []api.Node{{L: many(2)}}}, 4, 3}, {array(make([]api.Node, 1<<20)...), 1<<20 + 1, 2},
	} {
		if Count(x.n) != x.count || Depth(x.n) != x.depth {
			t.Errorf("%d, %d; want %d, %d", Count(x.n), Depth(x.n), x.count, x.depth)
		}
	}
}

// P6.1
func TestSame(t *testing.T) {
	nodes := append(rightOnes(), wrongOnes()...)
	nodes = slices.DeleteFunc(nodes, func(n api.Node) bool { return Count(n) > 1000 })
	for field := range strings.SplitSeq("BDUWSL", "") {
		nodes = append(nodes, withField(api.Node{}, field), array(withField(api.Node{}, field)))
	}
	for _, a := range nodes {
		for _, b := range nodes {
			if got := Same(a, b); got != wantSame(a, b) {
				t.Errorf("Same(%v, %v): %v", a, b, got)
			}
		}
	}
	for _, d := range []api.Dec{{Neg: true, Digits: "1"}, {Digits: "2"}, {Digits: "1", Exp: 1}} {
		if Same(one(), decimal(d)) {
			t.Errorf("%v is not 1", d)
		}
	}
	deep := nested(null(), 1<<16)
	if !Same(deep, Clone(deep)) || Same(deep, nested(one(), 1<<16)) || Same(deep, array(deep)) {
		t.Error("deep")
	}
}

// P6.1: nothing in a list of one is in the other one; nor is room behind.
func TestCloneSharesNothing(t *testing.T) {
	spare := make([]api.Node, 2, 10)
	spare[0], spare[1] = array(one()), mapOf(text("a"), array(one()))
	for _, n := range []api.Node{array(spare...), array(), {Kind: api.KindArray, L: spare[:0]}, {Kind: noForm, L: spare}, array(spare[0], spare[0])} {
		kept := emptied(n)
		clone := Clone(n)
		if !wantSame(clone, kept) {
			t.Errorf("Clone(%v): %v", n, clone)
		}
		spoil(clone)
		if !wantSame(n, kept) || !reflect.DeepEqual(spare[:10][2:], make([]api.Node, 8)) {
			t.Errorf("%v was written into", n)
		}
	}
	twice := Clone(array(spare[0], spare[0]))
	twice.L[0].L[0] = null()
	if twice.L[1].L[0].Kind != api.KindNum {
		t.Error("two lists of a clone are one")
	}
	one := Clone(array(spare[:1]...))
	if two := append(one.L, null()); len(two) != 2 || cap(one.L) > 1 && &two[0] == &one.L[0] && &two[1] == &spare[1] {
		t.Error("room behind is shared")
	}
}

// spoil writes into all lists of a tree, and into the room behind.
func spoil(n api.Node) {
	for i := range n.L {
		spoil(n.L[i])
	}
	l := n.L[:cap(n.L)]
	for i := range l {
		l[i] = api.Node{Kind: noForm}
	}
}

// P6.1, P6.2: nothing handed in is changed.
func TestNothingIsWrittenInto(t *testing.T) {
	for _, n := range append(rightOnes(), wrongOnes()...) {
		if Count(n) > 1000 {
			continue
		}
		kept := emptied(n)
		Right(n)
		Same(n, n)
		Check(n, api.FormD)
		Clone(n)
		if !wantSame(n, kept) {
			t.Errorf("%v was %v", n, kept)
		}
	}
}

// P6.2: each kind in each form, in the order of the forms' numbers.
func TestCheck(t *testing.T) {
	const no = api.ErrForm
	for _, x := range []struct {
		n    api.Node
		want [4]api.Errno
	}{
		{null(), [4]api.Errno{}}, {truth(true), [4]api.Errno{}}, {text("a"), [4]api.Errno{}}, {array(), [4]api.Errno{}}, {mapOf(), [4]api.Errno{}}, {mapOf(text("a"), one()), [4]api.Errno{}},
		{bytes("a"), [4]api.Errno{no}}, {tag(1, array(one(), one())), [4]api.Errno{no, 0, 0, no}}, {simple(0), [4]api.Errno{no, 0, 0, no}}, {simple(23), [4]api.Errno{no, 0, 0, no}}, {simple(255), [4]api.Errno{no, 0, 0, no}}, {ext(0, ""), [4]api.Errno{no, no, no, 0}},
		{number(false, 0), [4]api.Errno{}}, {number(false, math.MaxUint64), [4]api.Errno{}}, {number(true, 1<<63), [4]api.Errno{}}, {number(true, 1<<63+1), [4]api.Errno{0, 0, 0, no}}, {number(true, math.MaxUint64), [4]api.Errno{0, 0, 0, no}},
		{decimal(api.Dec{Digits: "18446744073709551616"}), [4]api.Errno{0, no, no, no}}, {decimal(api.Dec{Neg: true, Digits: "18446744073709551616"}), [4]api.Errno{0, no, no, no}}, {decimal(api.Dec{Digits: "1", Exp: 19}), [4]api.Errno{}}, {decimal(api.Dec{Digits: "1", Exp: 20}), [4]api.Errno{0, no, no, no}}, {decimal(api.Dec{Digits: "15", Exp: -1}), [4]api.Errno{0, no, no, no}}, {decimal(api.Dec{Digits: "1", Exp: 100}), [4]api.Errno{0, no, no, no}},
		{bits(16, 0x3c00), [4]api.Errno{no, 0, 0, no}}, {bits(16, 0x7e01), [4]api.Errno{no, 0, 0, no}}, {bits(32, 0x3f800000), [4]api.Errno{no, 0, no, 0}}, {bits(32, 0x3dcccccd), [4]api.Errno{no, 0, 0, 0}}, {bits(64, 0x3ff0000000000000), [4]api.Errno{no, 0, no, 0}}, {bits(64, 0x3fb99999a0000000), [4]api.Errno{no, 0, no, 0}}, {bits(64, 0x3fb999999999999a), [4]api.Errno{no, 0, 0, 0}}, {bits(64, 0x7ff0000000000000), [4]api.Errno{no, 0, no, 0}}, {bits(64, 0x7ff0000000000001), [4]api.Errno{no, 0, 0, 0}},
		{mapOf(bytes("a"), one()), [4]api.Errno{no}}, {mapOf(truth(true), one()), [4]api.Errno{no}}, {mapOf(null(), one()), [4]api.Errno{no}}, {mapOf(number(false, math.MaxUint64), one()), [4]api.Errno{no}}, {mapOf(number(true, 1<<63), one()), [4]api.Errno{no}}, {mapOf(number(true, 1<<63+1), one()), [4]api.Errno{no, 0, 0, no}},
		{mapOf(decimal(api.Dec{Digits: "15", Exp: -1}), one()), [4]api.Errno{no, no, no, no}}, {mapOf(decimal(api.Dec{Neg: true, Digits: "1", Exp: 20}), one()), [4]api.Errno{no, no, no, no}}, {mapOf(array(), one()), [4]api.Errno{no, no, no, no}}, {mapOf(mapOf(), one()), [4]api.Errno{no, no, no, no}}, {mapOf(bits(64, 0x3fb999999999999a), one()), [4]api.Errno{no, no, no, no}}, {mapOf(tag(1, text("a")), one()), [4]api.Errno{no, no, no, no}}, {mapOf(simple(0), one()), [4]api.Errno{no, no, no, no}}, {mapOf(ext(0, ""), one()), [4]api.Errno{no, no, no, no}},
		{mapOf(text("a"), one(), null(), one()), [4]api.Errno{no}}, {mapOf(text("a"), array(), text("b"), mapOf(array(), null())), [4]api.Errno{no, no, no, no}},
	} {
		for i, e := range x.want {
			for _, n := range []api.Node{x.n, array(x.n), mapOf(text("b"), null(), text("a"), x.n), nested(x.n, 5)} {
				if got := Check(n, i+1); got != e {
					t.Errorf("Check(%v, %d): %d; want %d", n, i+1, got, e)
				}
			}
		}
		ask(t, x.n)
		for _, form := range []int{0, -1, 5, noForm, math.MinInt, math.MaxInt} {
			if got := Check(x.n, form); got != no {
				t.Errorf("Check(%v, %d): %d", x.n, form, got)
			}
		}
	}
}

// P6.2: what is no right tree is told ahead of what does not fit.
func TestCheckTellsTheTreeFirst(t *testing.T) {
	for _, n := range wrongOnes() {
		for _, n := range []api.Node{n, array(ext(1, ""), n, tag(1, null()))} {
			for _, form := range []int{api.FormJ, api.FormC, api.FormD, api.FormM, 0, noForm} {
				if got := Check(n, form); got != api.ErrTree {
					t.Errorf("Check(a wrong one, %d): %d", form, got)
				}
			}
		}
	}
}

// P6.3: what is right has right parts; what fits FormD fits FormC; what fits FormJ, with such numbers, fits all.
func follows(t *testing.T, n api.Node) {
	t.Helper()
	for _, part := range n.L {
		if Right(n) && !Right(part) {
			t.Errorf("%v is right, and its part %v is not", n, part)
		}
	}
	if Check(n, api.FormD) == api.OK && Check(n, api.FormC) != api.OK {
		t.Errorf("%v fits FormD, and not FormC", n)
	}
	if Check(n, api.FormJ) != api.OK || !hasSmallNumbers(n) {
		return
	}
	for _, form := range []int{api.FormC, api.FormD, api.FormM} {
		if e := Check(n, form); e != api.OK {
			t.Errorf("Check(%v, %d): %d", n, form, e)
		}
	}
}

// hasSmallNumbers tells whether all decimals of a tree are whole ones from 0 to 2 to the power 63.
func hasSmallNumbers(n api.Node) bool {
	if n.Kind == api.KindNum {
		neg, size, ok := dec.ToInt(n.D)
		return ok && !neg && size <= 1<<63
	}
	return !slices.ContainsFunc(n.L, func(inner api.Node) bool { return !hasSmallNumbers(inner) })
}

// source makes trees of the bytes that it is given, and of noughts when they are all taken.
type source struct{ left []byte }

func (s *source) next() int {
	if len(s.left) == 0 {
		return 0
	}
	b := s.left[0]
	s.left = s.left[1:]
	return int(b)
}

func pick[T any](s *source, of ...T) T { return of[s.next()%len(of)] }

func (s *source) tree(depth int) api.Node {
	n := api.Node{Kind: s.next() % 13}
	for field := range strings.SplitSeq(fieldsOf[n.Kind], "") {
		s.fill(&n, field, depth)
	}
	if s.next()%64 == 63 {
		s.fill(&n, pick(s, "B", "D", "U", "W", "S", "L"), depth)
	}
	return n
}

func (s *source) fill(n *api.Node, field string, depth int) {
	switch field {
	case "B":
		n.B = s.next()%2 == 1
	case "D":
		n.D = pick(s, one().D, dec.OfInt(false, 0), dec.OfInt(true, 1<<63), dec.OfInt(true, 1<<63+1), dec.OfInt(false, math.MaxUint64), api.Dec{Digits: "15", Exp: -1}, api.Dec{Digits: "1", Exp: 20}, dec.OfInt(false, 1<<63), api.Dec{Digits: "7", Exp: s.next()})
	case "U":
		n.U = pick(s, uint64(s.next()), 0x3c00, 0x3f800000, 0x3fc00000, 0x3dcccccd, 0x3ff0000000000000, 0x3fb999999999999a, 1<<uint(s.next()%64))
	case "W":
		n.W = pick(s, 16, 32, 64, 32, 64, 64, s.next())
	case "S":
		n.S = pick(s, "", "a", "b", "c", string(rune(s.next())), string([]byte{byte(s.next())}), x400, x401)
	case "L":
		count := pick(s, 0, 1, 2, 2, 4, 6, 1, 3)
		if depth == 0 {
			count = 0
		}
		for range count {
			n.L = append(n.L, s.tree(depth-1))
		}
	}
}

// P6.1 to P6.3, at trees by chance.
func TestTreesByChance(t *testing.T) {
	chance := rand.New(rand.NewSource(6))
	for range 20000 {
		data := make([]byte, chance.Intn(400))
		chance.Read(data)
		s := source{data}
		n := s.tree(4)
		ask(t, n)
		follows(t, n)
	}
	for _, n := range rightOnes() {
		follows(t, n)
	}
}

// FuzzTree holds the calls against the library, at trees made of any bytes.
func FuzzTree(f *testing.F) {
	for kind := range byte(13) {
		f.Add([]byte{kind, 2, 3, 4, 5, 6, 7, 8, 9})
	}
	f.Fuzz(func(t *testing.T, data []byte) {
		s := source{data}
		n := s.tree(20)
		ask(t, n)
		follows(t, n)
		other := s.tree(20)
		if Same(n, other) != wantSame(n, other) {
			t.Errorf("Same(%v, %v)", n, other)
		}
	})
}
