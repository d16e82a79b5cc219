package path

import (
	"encoding/json"
	"math"
	"math/rand"
	"reflect"
	"regexp"
	"slices"
	"strconv"
	"strings"
	"testing"
	"unicode/utf8"

	"targum/api"
	"targum/tree"
)

var (
	x400 = strings.Repeat("x", api.MaxText)
	x401 = x400 + "x"
	// Two hundred characters of two bytes each.
	e400 = strings.Repeat("\u00e9", api.MaxText/2)
)

func null() api.Node { return api.Node{Kind: api.KindNull} }

func num(digits string) api.Node { return api.Node{Kind: api.KindNum, D: api.Dec{Digits: digits}} }

func text(s string) api.Node { return api.Node{Kind: api.KindText, S: s} }

func bytes(s string) api.Node { return api.Node{Kind: api.KindBytes, S: s} }

func array(l ...api.Node) api.Node { return api.Node{Kind: api.KindArray, L: l} }

func mapOf(l ...api.Node) api.Node { return api.Node{Kind: api.KindMap, L: l} }

func tag(u uint64, l ...api.Node) api.Node { return api.Node{Kind: api.KindTag, U: u, L: l} }

func place(i int) api.Step { return api.Step{Index: i} }

func key(s string) api.Step { return api.Step{Index: -1, Key: s} }

func steps(s ...api.Step) []api.Step { return s }

// nested answers a node within as many arrays as are asked for.
func nested(n api.Node, arrays int) api.Node {
	for range arrays {
		n = array(n)
	}
	return n
}

// keyed answers a node within as many maps as are asked for, each with one key.
func keyed(n api.Node, maps int) api.Node {
	for range maps {
		n = mapOf(text("k"), n)
	}
	return n
}

// emptied answers a node whose empty lists are nil, which shares nothing with the one handed in.
func emptied(n api.Node) api.Node {
	var l []api.Node
	for _, inner := range n.L {
		l = append(l, emptied(inner))
	}
	n.L = l
	return n
}

func isSame(a, b api.Node) bool { return reflect.DeepEqual(emptied(a), emptied(b)) }

func isSamePath(a, b []api.Step) bool { return slices.Equal(a, b) }

// rightPaths and wrongPaths stand at the edges of what a path is.
func rightPaths() [][]api.Step {
	return [][]api.Step{
		nil, {}, {place(0)}, {place(1)}, {place(math.MaxInt)}, {key("")}, {key("a")}, {key("\x00")}, {key("0")}, {key("/")}, {key("\"\\")}, {key("\ufffd")}, {key("\U0010ffff")},
		{key(x400)}, {key(e400)}, {key("a"), place(2)}, {place(2), key("a")}, make([]api.Step, 16), slices.Repeat(steps(key("")), 16), slices.Repeat(steps(key(x400)), 16), slices.Repeat(steps(place(math.MaxInt)), 16),
	}
}

func wrongPaths() [][]api.Step {
	return [][]api.Step{
		{place(-2)}, {place(math.MinInt)}, {{Index: -2, Key: "a"}}, {{Index: math.MinInt, Key: "a"}}, {{Index: 0, Key: "a"}}, {{Index: 1, Key: "x"}}, {{Index: math.MaxInt, Key: "\x00"}},
		{key("\xff")}, {key("a\xc3")}, {key("\xed\xa0\x80")}, {key("\xf4\x90\x80\x80")}, {key("\xc0\x80")}, {key(x401)}, {key(e400 + "x")}, {key(strings.Repeat("\xff", 400))},
		{place(0), place(-2)}, {place(-2), place(0)}, {key("a"), key("\xff"), key("a")}, append(make([]api.Step, 15), place(-2)),
		make([]api.Step, 17), slices.Repeat(steps(key("a")), 17), make([]api.Step, 1<<16),
	}
}

// trees have nodes of many kinds, right and wrong, of which paths lead to some.
func trees() []api.Node {
	return []api.Node{
		{}, null(), num("1"), text("a"), bytes("a"), array(), mapOf(), {Kind: api.KindArray, L: []api.Node{}}, {Kind: -7, L: []api.Node{null()}},
		array(null()), array(null(), num("1"), text("a")), mapOf(text("a"), num("1")), mapOf(text("a"), num("1"), text("b"), num("2"), text(""), num("3")),
		mapOf(text("a"), array(num("1"), num("2")), num("7"), num("8"), text("é"), text("x")),
		mapOf(bytes("a"), num("1"), text("a"), num("2"), null(), num("3"), array(), num("4"), num("0"), num("5")),
		mapOf(text("a"), num("1"), text("a"), num("2"), text("b"), num("3"), text("a"), array(num("4"))),
		mapOf(num("1"), text("a"), text("a"), num("2")), mapOf(text("a"), text("b"), text("b"), text("a")),
		mapOf(text("a")), mapOf(text("a"), num("1"), text("b")), mapOf(text("a"), num("1"), text("a")),
		mapOf(text("\xff"), num("1"), text("a"), num("2")), mapOf(text(x401), num("1"), text(x400), num("2"), text(e400), num("3")),
		mapOf(array(num("1")), num("2"), mapOf(text("a"), num("1")), num("3")), mapOf(text("0"), array(array(), mapOf())),
		tag(1, array(num("1"))), array(tag(1, array(num("1"))), array(num("2"))), mapOf(text("t"), tag(9, mapOf(text("a"), null()))),
		{Kind: api.KindText, S: "a", L: []api.Node{num("1")}}, {Kind: api.KindArray, S: "a", U: 9, B: true, L: []api.Node{num("1")}}, {Kind: api.KindMap, W: 9, L: []api.Node{text("a"), num("1")}},
		nested(num("1"), 15), nested(num("1"), 16), nested(num("1"), 17), nested(array(num("1"), num("2")), 16), nested(num("1"), 40), nested(num("1"), 1<<16), keyed(num("1"), 16), keyed(num("1"), 17), keyed(array(num("1")), 15),
		array(slices.Repeat(nodes(array(num("1"), mapOf(text("k"), null()))), 60)...),
	}
}

func nodes(n ...api.Node) []api.Node { return n }

// wantRight tells whether steps are a path, as the library tells it.
func wantRight(p []api.Step) bool {
	for _, s := range p {
		isPlace := s.Index >= 0 && s.Key == ""
		isKey := s.Index == -1 && utf8.ValidString(s.Key) && len(s.Key) < 401
		if isPlace == isKey {
			return false
		}
	}
	return len(p) < 17
}

// wantStep answers where in a node's list what a step leads to stands; -1, if there is nothing.
func wantStep(n api.Node, s api.Step) int {
	if n.Kind == api.KindArray && s.Index >= 0 && s.Index < len(n.L) {
		return s.Index
	}
	if n.Kind == api.KindMap && s.Index == -1 {
		for i := 0; i+1 < len(n.L); i += 2 {
			if n.L[i].Kind == api.KindText && n.L[i].S == s.Key {
				return i + 1
			}
		}
	}
	return -1
}

// wantEdit answers a tree whose node at a path is replaced by others, one or none; false, if there is none.
func wantEdit(n api.Node, p []api.Step, others ...api.Node) (api.Node, bool) {
	if len(p) == 0 {
		return others[0], true
	}
	at := wantStep(n, p[0])
	if at < 0 {
		return api.Node{}, false
	}
	var l []api.Node
	for i, inner := range n.L {
		switch {
		case i == at && len(p) == 1:
			l = append(l, others...)
		case i == at:
			edited, ok := wantEdit(inner, p[1:], others...)
			if !ok {
				return api.Node{}, false
			}
			l = append(l, edited)
		case i == at-1 && n.Kind == api.KindMap && len(p) == 1 && len(others) == 0:
		default:
			l = append(l, inner)
		}
	}
	n.L = l
	return n, true
}

// wantFind answers the node at a path, by recursion.
func wantFind(n api.Node, p []api.Step) (api.Node, bool) {
	if len(p) == 0 {
		return n, true
	}
	at := wantStep(n, p[0])
	if at < 0 {
		return api.Node{}, false
	}
	return wantFind(n.L[at], p[1:])
}

// wantAll answers all paths, each held against those that were found before it.
func wantAll(n api.Node) [][]api.Step {
	out := [][]api.Step{nil}
	for done := 0; done < len(out); done++ {
		p := out[done]
		at, _ := wantFind(n, p)
		for i := range at.L {
			s := place(i)
			if at.Kind == api.KindMap && i > 0 {
				s = key(at.L[i-1].S)
			}
			longer := append(slices.Clone(p), s)
			if wantStep(at, s) == i && wantRight(longer) {
				out = append(out, longer)
			}
		}
	}
	slices.SortStableFunc(out, func(a, b []api.Step) int { return slices.Compare(wantPlaces(n, a), wantPlaces(n, b)) })
	return out
}

// wantPlaces answers where in its list each node on the way stands: the order of paths.
func wantPlaces(n api.Node, p []api.Step) []int {
	var out []int
	for _, s := range p {
		out = append(out, wantStep(n, s))
		n = n.L[wantStep(n, s)]
	}
	return out
}

// wantQuote answers a plain quotation, put together by hand.
func wantQuote(s string) string {
	var b strings.Builder
	for _, r := range s {
		if i := strings.IndexRune("\"\\\b\f\n\r\t", r); i >= 0 {
			b.WriteString("\\" + `"\bfnrt`[i:i+1])
		} else if r < 0x20 {
			b.WriteString(`\u00` + string("01"[r>>4]) + string("0123456789abcdef"[r&15]))
		} else {
			b.WriteRune(r)
		}
	}
	return `"` + b.String() + `"`
}

func wantCode(p []api.Step) string {
	out := ""
	for _, s := range p {
		if s.Index >= 0 {
			out += "/" + strconv.Itoa(s.Index)
		} else {
			out += "/" + wantQuote(s.Key)
		}
	}
	return out
}

var oneStep = regexp.MustCompile(`^/(?:(0|[1-9][0-9]*)|("(?:[^"\\\x00-\x1f]|\\["\\bfnrt]|\\u00[01][0-9a-f])*"))`)

// wantDecode answers the path of a code, cut by the library.
func wantDecode(s string) ([]api.Step, bool) {
	var p []api.Step
	code := s
	for s != "" {
		m := oneStep.FindStringSubmatch(s)
		if m == nil {
			return nil, false
		}
		s = s[len(m[0]):]
		if m[1] != "" {
			i, err := strconv.ParseInt(m[1], 10, 64)
			if err != nil {
				return nil, false
			}
			p = append(p, place(int(i)))
			continue
		}
		var k string
		if json.Unmarshal([]byte(m[2]), &k) != nil {
			return nil, false
		}
		p = append(p, key(k))
	}
	if !wantRight(p) || wantCode(p) != code {
		return nil, false
	}
	return p, true
}

// P7.1
func TestRight(t *testing.T) {
	for i, p := range rightPaths() {
		if !Right(p) || !wantRight(p) {
			t.Error("right", i)
		}
	}
	for i, p := range wrongPaths() {
		if Right(p) || wantRight(p) {
			t.Error("wrong", i)
		}
	}
}

// somePaths answers paths that lead to nodes of a tree, and many that lead to none.
func somePaths(n api.Node) [][]api.Step {
	out := slices.Concat(wantAll(n), rightPaths(), wrongPaths())
	for _, p := range wantAll(n) {
		for _, s := range steps(place(0), place(1), place(2), place(60), key("a"), key("b"), key("k"), key("0"), key("1"), key("")) {
			out = append(out, append(slices.Clone(p), s))
		}
	}
	return out
}

// P7.1, P7.3: what is done at a path is held against what recursion does.
func ask(t *testing.T, n api.Node, p []api.Step, x api.Node) {
	t.Helper()
	want, ok := wantFind(n, p)
	ok = ok && wantRight(p)
	if !ok {
		want = api.Node{}
	}
	got, found := Find(n, p)
	if found != ok || !isSame(got, want) {
		t.Fatal("Find", n, p, got, found)
	}
	put, e := Replace(n, p, x)
	askEdit(t, "Replace", put, e, ok, n, p, x)
	if ok {
		if again, found := Find(put, p); !found || !isSame(again, x) {
			t.Fatal("Replace: other", n, p, again)
		}
	}
	cut, e := Delete(n, p)
	askEdit(t, "Delete", cut, e, ok && len(p) > 0, n, p)
}

func askEdit(t *testing.T, name string, got api.Node, e api.Errno, ok bool, n api.Node, p []api.Step, others ...api.Node) {
	t.Helper()
	want := api.Node{}
	wantE := api.ErrPath
	if ok {
		want, _ = wantEdit(n, p, others...)
		wantE = api.OK
	}
	if e != wantE || !isSame(got, want) {
		t.Fatal(name, n, p, got, e, want)
	}
}

func TestFindReplaceDelete(t *testing.T) {
	for _, n := range trees() {
		if tree.Count(n) > 1000 {
			continue
		}
		for _, p := range somePaths(n) {
			for _, x := range []api.Node{{}, text("new"), array(num("1"), array()), n} {
				ask(t, n, p, x)
			}
		}
	}
}

// P7.1: the edges that the words name.
func TestFindAtEdges(t *testing.T) {
	n := mapOf(bytes("a"), num("1"), text("a"), num("2"), text("a"), num("3"), num("7"), num("8"))
	if x, ok := Find(n, steps(key("a"))); !ok || !isSame(x, num("2")) {
		t.Error("the first key that is a text, and that one", x, ok)
	}
	if _, ok := Find(n, steps(key("7"))); ok {
		t.Error("a key that is no text")
	}
	if _, ok := Find(n, steps(place(0))); ok {
		t.Error("a place of a map")
	}
	if _, ok := Find(array(num("1"), num("2")), steps(place(2))); ok {
		t.Error("a place past the end")
	}
	if _, ok := Find(tag(1, array(num("1"))), steps(place(0))); ok {
		t.Error("a place of a tag")
	}
	if _, ok := Find(mapOf(text("a")), steps(key("a"))); ok {
		t.Error("a key that has nothing")
	}
	deep := make([]api.Step, 16)
	if x, ok := Find(nested(num("1"), 16), deep); !ok || !isSame(x, num("1")) {
		t.Error("sixteen steps", x, ok)
	}
	if _, ok := Find(nested(num("1"), 17), append(deep, place(0))); ok {
		t.Error("seventeen steps")
	}
	if x, ok := Find(mapOf(text(x400), num("1")), steps(key(x400))); !ok || !isSame(x, num("1")) {
		t.Error("a long key", x, ok)
	}
	for _, wrong := range []string{x401, "\xff"} {
		if _, ok := Find(mapOf(text(wrong), num("1")), steps(key(wrong))); ok {
			t.Error("a wrong key")
		}
	}
}

// P7.1: a key that stands there again leads, once the first one is away.
func TestDeleteFirstOfTwo(t *testing.T) {
	n := mapOf(text("a"), num("1"), num("5"), num("6"), text("a"), num("2"))
	got, e := Delete(n, steps(key("a")))
	if e != api.OK || !isSame(got, mapOf(num("5"), num("6"), text("a"), num("2"))) {
		t.Error(got, e)
	}
	got, e = Delete(got, steps(key("a")))
	if e != api.OK || !isSame(got, mapOf(num("5"), num("6"))) {
		t.Error(got, e)
	}
	if got, e = Delete(got, steps(key("a"))); e != api.ErrPath || !isSame(got, api.Node{}) {
		t.Error(got, e)
	}
}

// P7.1: an empty path leads to the tree itself, which can be replaced, but not deleted.
func TestEmptyPath(t *testing.T) {
	for _, p := range [][]api.Step{nil, {}} {
		n := array(num("1"))
		if x, ok := Find(n, p); !ok || !isSame(x, n) {
			t.Error("Find", x, ok)
		}
		if x, e := Replace(n, p, text("new")); e != api.OK || !isSame(x, text("new")) {
			t.Error("Replace", x, e)
		}
		if x, e := Delete(n, p); e != api.ErrPath || !isSame(x, api.Node{}) {
			t.Error("Delete", x, e)
		}
	}
}

// P7.2
func TestAll(t *testing.T) {
	for _, n := range trees() {
		got, want := All(n), wantAll(n)
		if !slices.EqualFunc(got, want, isSamePath) {
			t.Error(tree.Count(n), got, want)
		}
		for _, p := range got {
			if _, ok := Find(n, p); !ok {
				t.Error("leads to none", p)
			}
		}
	}
}

// P7.2: sixteen steps are the most.
func TestAllOfDeepOnes(t *testing.T) {
	for arrays, want := range map[int]int{0: 1, 1: 2, 15: 16, 16: 17, 17: 17, 300: 17, 1 << 16: 17} {
		for _, n := range []api.Node{nested(num("1"), arrays), keyed(num("1"), arrays)} {
			got := All(n)
			if len(got) != want {
				t.Error(arrays, len(got))
			}
			for i, p := range got {
				if len(p) != i {
					t.Error(arrays, i, len(p))
				}
			}
		}
	}
}

// P7.2: each path is ahead of those that go on with it, in order.
func TestAllInOrder(t *testing.T) {
	n := array(mapOf(text("b"), array(null(), null()), num("3"), null(), text("a"), null(), text("b"), null(), text("\xff"), null(), text(x401), null()), array(), tag(1, array(null())))
	want := []string{``, `/0`, `/0/"b"`, `/0/"b"/0`, `/0/"b"/1`, `/0/"a"`, `/1`, `/2`}
	var got []string
	for _, p := range All(n) {
		s, _ := Code(p)
		got = append(got, s)
	}
	if !slices.Equal(got, want) {
		t.Error(got)
	}
}

// R5: many nodes are gone through in fair time.
func TestManyNodes(t *testing.T) {
	const count = 1 << 17
	var l []api.Node
	for i := range count {
		l = append(l, text(strconv.Itoa(i)), null())
	}
	if got := len(All(mapOf(l...))); got != count+1 {
		t.Error("map", got)
	}
	if got := len(All(array(l...))); got != 2*count+1 {
		t.Error("array", got)
	}
	n, e := Delete(mapOf(l...), steps(key(strconv.Itoa(count-1))))
	if e != api.OK || len(n.L) != 2*count-2 {
		t.Error("Delete", e)
	}
}

// P7.2, P7.3
func TestCode(t *testing.T) {
	for i, p := range rightPaths() {
		s, e := Code(p)
		if e != api.OK || s != wantCode(p) {
			t.Error(i, s, e)
		}
		if got, e := Decode(s); e != api.OK || !isSamePath(got, p) {
			t.Error(i, got, e)
		}
	}
	for i, p := range wrongPaths() {
		if s, e := Code(p); e != api.ErrPath || s != "" {
			t.Error(i, s, e)
		}
	}
	for s, p := range map[string][]api.Step{
		`/"a"/2`: {key("a"), place(2)}, ``: nil, `/0`: {place(0)}, `/""`: {key("")}, `/"/"/"\""`: {key("/"), key(`"`)}, `/9223372036854775807`: {place(math.MaxInt)},
		`/"\\\"\b\f\n\r\t\u0000\u001f"`: {key("\\\"\b\f\n\r\t\x00\x1f")}, "/\"\x7f\u00e9\u2028\U0001f600\"": {key("\x7f\u00e9\u2028\U0001f600")},
	} {
		if got, e := Code(p); e != api.OK || got != s {
			t.Error(s, got, e)
		}
	}
}

// askDecode holds Decode against the library.
func askDecode(t *testing.T, s string) {
	t.Helper()
	want, ok := wantDecode(s)
	wantE := api.OK
	if !ok {
		wantE = api.ErrPath
	}
	got, e := Decode(s)
	if e != wantE || !isSamePath(got, want) {
		t.Fatalf("%q: %v %v, want %v %v", s, got, e, want, wantE)
	}
	if again, f := Code(got); ok && (again != s || f != api.OK) {
		t.Fatalf("%q: %q %v", s, again, f)
	}
}

// P7.2: what is no code.
func TestDecodeWrong(t *testing.T) {
	for _, s := range []string{
		"/", "x", "0", `"a"`, " ", "/ ", "/0 ", " /0", "/01", "/00", "/-1", "/-0", "/+1", "/1.0", "/1e1", "/0x1", "/1_0", "/\u0661", "/\xff", "/1\xff", "/a", "//", "//0", "/0/", "/0//0", `/"a"/`, `/"a"0`, `/"a"x`, `/"a""b"`, `/0"a"`,
		`/"a`, `/"`, `/"\"`, `/'a'`, `/"\u0061"`, `/"\/"`, `/"\u000a"`, `/"\u001F"`, `/"\u007f"`, `/"\u00e9"`, `/"\ud83d\ude00"`, `/"\ud83d"`, `/"\x"`, "/\"\n\"", "/\"\xff\"", "/\"\xed\xa0\x80\"", `/"\U0000"`, `/"\u000"`,
		"/9223372036854775808", "/9223372036854775810", "/10000000000000000000", "/18446744073709551615", "/18446744073709551616", "/18446744073709551617", "/-5776627963145224192", "/-9223372036854775808", "/" + strings.Repeat("9", 5000), "/" + strings.Repeat("0", 5000),
		`/"` + x401 + `"`, `/"` + e400 + `x"`, strings.Repeat("/0", 17), strings.Repeat("/0", 1<<16), strings.Repeat(`/"a"`, 17), strings.Repeat("/0", 16) + "/", strings.Repeat("/0", 16) + "x",
	} {
		if got, e := Decode(s); e != api.ErrPath || len(got) != 0 {
			t.Errorf("%q: %v %v", s, got, e)
		}
		askDecode(t, s)
	}
}

// P7.2, P7.3: all short texts of what codes are made of.
func TestDecodeAllShortOnes(t *testing.T) {
	letters := []string{"/", "0", "1", "9", `"`, `\`, "u", "n", "a", "-", "\n", "\xc3"}
	var try func(s string, more int)
	try = func(s string, more int) {
		askDecode(t, s)
		for _, c := range letters {
			if more > 0 {
				try(s+c, more-1)
			}
		}
	}
	try("", 4)
	for _, s := range []string{`/"`, `/0/"a"/1`, `/"\u00`, `/"\`, strings.Repeat("/0", 15), `/922337203685477580`} {
		try(s, 3)
	}
}

// P7.2: each character below 80 (hexadecimal), quoted and not, is decoded as it is written alone.
func TestDecodeEachCharacter(t *testing.T) {
	for r := range rune(0x80) {
		for _, s := range []string{string(r), `\` + string(r), `\u00` + string("0123456789abcdef"[r>>4]) + string("0123456789abcdef"[r&15]), `\u00` + string("0123456789ABCDEF"[r>>4]) + string("0123456789ABCDEF"[r&15])} {
			askDecode(t, `/"`+s+`"`)
			askDecode(t, `/`+s)
		}
		askDecode(t, `/`+wantQuote(string(r)))
	}
}

// R3: what is handed in stays as it is, spare room too.
func TestNothingIsWrittenInto(t *testing.T) {
	room := func(l ...api.Node) []api.Node { return append(make([]api.Node, 0, len(l)+4), l...) }
	list := room(text("a"), array(room(num("1"), num("2"))...), text("b"), num("3"))
	n := mapOf(list...)
	n.L = list
	p := append(make([]api.Step, 0, 8), key("a"), place(1))
	x := array(room(num("9"))...)
	before := []any{emptied(array(list[:cap(list)]...)), slices.Clone(p[:cap(p)]), emptied(array(x.L[:cap(x.L)]...)), emptied(array(list[1].L[:cap(list[1].L)]...))}
	Right(p)
	Find(n, p)
	Replace(n, p, x)
	Delete(n, p)
	Delete(n, p[:1])
	All(n)
	Code(p)
	after := []any{emptied(array(list[:cap(list)]...)), slices.Clone(p[:cap(p)]), emptied(array(x.L[:cap(x.L)]...)), emptied(array(list[1].L[:cap(list[1].L)]...))}
	if !reflect.DeepEqual(before, after) {
		t.Error(before, after)
	}
}

// spoil writes into all lists of a tree, and their spare room.
func spoil(n api.Node) {
	for i := range n.L {
		spoil(n.L[i])
	}
	l := n.L[:cap(n.L)]
	for i := range l {
		l[i] = text("spoilt")
	}
}

// R3: what is answered shares nothing with what was handed in, nor with itself.
func TestAnswersShareNothing(t *testing.T) {
	n := mapOf(text("a"), array(array(num("1")), num("2")), text("b"), array(num("3"), array(num("4"))), text("c"), num("5"))
	n0 := emptied(n)
	for _, p := range All(n) {
		x, _ := Find(n, p)
		spoil(x)
		// What is put is the tree itself: both parts of the answer must be new.
		put, _ := Replace(n, p, n)
		askOwnLists(t, put)
		spoil(put)
		cut, _ := Delete(n, p)
		askOwnLists(t, cut)
		spoil(cut)
		if !isSame(n, n0) {
			t.Fatal("spoilt", p, n)
		}
	}
}

// askOwnLists holds the lists of a tree, spare room too, against each other.
func askOwnLists(t *testing.T, n api.Node) {
	t.Helper()
	seen := map[*api.Node]bool{}
	var look func(n api.Node)
	look = func(n api.Node) {
		l := n.L[:cap(n.L)]
		for i := range l {
			if seen[&l[i]] {
				t.Fatal("shared", n)
			}
			seen[&l[i]] = true
		}
		for _, inner := range n.L {
			look(inner)
		}
	}
	look(n)
}

// R3: no two paths share memory, nor spare room.
func TestPathsShareNothing(t *testing.T) {
	n := array(array(array(null(), null(), null()), null()), mapOf(text("a"), array(null(), null()), text("b"), null()), nested(null(), 14))
	all := All(n)
	seen := map[*api.Step]bool{}
	for _, p := range all {
		l := p[:cap(p)]
		for i := range l {
			if seen[&l[i]] {
				t.Fatal("shared", p)
			}
			seen[&l[i]] = true
		}
	}
}

// R1: deep trees are gone through, whatever they are.
func TestDeepOnes(t *testing.T) {
	deep := nested(num("1"), 1<<16-1)
	p := make([]api.Step, 16)
	x, ok := Find(deep, p)
	if !ok || tree.Depth(x) != 1<<16-16 {
		t.Error("Find", ok)
	}
	if x, e := Replace(deep, p, deep); e != api.OK || tree.Depth(x) != 1<<16+16 {
		t.Error("Replace", e)
	}
	if x, e := Delete(deep, p); e != api.OK || tree.Depth(x) != 16 {
		t.Error("Delete", e)
	}
}

// source answers choices by chance, or by what a fuzzer writes.
type source struct {
	data []byte
	rand *rand.Rand
}

func (s *source) next(below int) int {
	if s.rand != nil {
		return s.rand.Intn(below)
	}
	if len(s.data) == 0 {
		return 0
	}
	n := int(s.data[0]) % below
	s.data = s.data[1:]
	return n
}

func (s *source) text() string {
	return []string{"a", "b", "", "0", "\xff", "é\n", "k"}[s.next(7)]
}

func (s *source) tree(depth int) api.Node {
	kinds := []int{api.KindArray, api.KindMap, api.KindTag, api.KindText, api.KindBytes, api.KindNull, api.KindNum, 0}
	if depth == 0 {
		kinds = kinds[3:]
	}
	n := api.Node{Kind: kinds[s.next(len(kinds))]}
	switch n.Kind {
	case api.KindText, api.KindBytes:
		n.S = s.text()
	case api.KindArray, api.KindMap, api.KindTag:
		for i := range s.next(7) {
			if n.Kind == api.KindMap && i%2 == 0 && s.next(5) > 0 {
				n.L = append(n.L, text(s.text()))
				continue
			}
			n.L = append(n.L, s.tree(depth-1))
		}
	}
	return n
}

func (s *source) path() []api.Step {
	var p []api.Step
	for range s.next(4) {
		if s.next(2) == 0 {
			p = append(p, api.Step{Index: s.next(5) - 1})
		} else {
			p = append(p, key(s.text()))
		}
	}
	return p
}

// P7.1 to P7.3, of trees by chance.
func TestTreesByChance(t *testing.T) {
	s := &source{rand: rand.New(rand.NewSource(7))}
	for range 2000 {
		n, x := s.tree(4), s.tree(2)
		all := All(n)
		if want := wantAll(n); !slices.EqualFunc(all, want, isSamePath) {
			t.Fatal(n, all, want)
		}
		p := all[s.next(len(all))]
		ask(t, n, p, x)
		ask(t, n, s.path(), x)
		askOthers(t, n, all, p, x)
	}
}

// P7.3: at no other path is there another node than before.
func askOthers(t *testing.T, n api.Node, all [][]api.Step, p []api.Step, x api.Node) {
	t.Helper()
	put, _ := Replace(n, p, x)
	for _, q := range all {
		shorter := min(len(p), len(q))
		if isSamePath(p[:shorter], q[:shorter]) {
			continue
		}
		before, _ := Find(n, q)
		after, ok := Find(put, q)
		if !ok || !isSame(before, after) {
			t.Fatal(n, p, q, before, after)
		}
	}
}

// P7.3: no two paths have one code.
func TestOneToOne(t *testing.T) {
	pathOf := map[string][]api.Step{}
	s := &source{rand: rand.New(rand.NewSource(8))}
	for range 20000 {
		p := s.path()
		code, e := Code(p)
		if (e == api.OK) != wantRight(p) {
			t.Fatal(p, e)
		}
		if e != api.OK {
			continue
		}
		if q, ok := pathOf[code]; ok && !isSamePath(p, q) {
			t.Fatal(p, q, code)
		}
		pathOf[code] = p
	}
}

func FuzzPath(f *testing.F) {
	f.Add(`/"a"/2`, []byte{1, 0, 0, 0, 2, 3})
	f.Add(`/"\u0000\""/0`, []byte{0, 6, 1, 6, 0, 1})
	f.Add("/9223372036854775808", []byte{})
	f.Fuzz(func(t *testing.T, code string, data []byte) {
		askDecode(t, code)
		s := &source{data: data}
		n, x := s.tree(4), s.tree(2)
		all := All(n)
		if want := wantAll(n); !slices.EqualFunc(all, want, isSamePath) {
			t.Fatal(n, all, want)
		}
		ask(t, n, s.path(), x)
		askOthers(t, n, all, all[s.next(len(all))], x)
	})
}
