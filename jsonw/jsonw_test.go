package jsonw

import (
	"bytes"
	"encoding/json"
	"fmt"
	"math/big"
	"math/rand"
	"reflect"
	"slices"
	"strconv"
	"strings"
	"testing"

	"targum/api"
	"targum/jsonr"
	"targum/tree"
)

var (
	x400 = strings.Repeat("x", api.MaxText)
	// Two hundred characters of two bytes each.
	e400 = strings.Repeat("\u00e9", api.MaxText/2)
	// A hundred digits.
	nines = strings.Repeat("9", api.MaxCoef)
)

func null() api.Node { return api.Node{Kind: api.KindNull} }

func truth(b bool) api.Node { return api.Node{Kind: api.KindBool, B: b} }

func num(digits string, exp int) api.Node {
	return api.Node{Kind: api.KindNum, D: api.Dec{Digits: digits, Exp: exp}}
}

func below(digits string, exp int) api.Node {
	return api.Node{Kind: api.KindNum, D: api.Dec{Neg: true, Digits: digits, Exp: exp}}
}

func one() api.Node { return num("1", 0) }

func textOf(s string) api.Node { return api.Node{Kind: api.KindText, S: s} }

func array(l ...api.Node) api.Node { return api.Node{Kind: api.KindArray, L: l} }

func mapOf(l ...api.Node) api.Node { return api.Node{Kind: api.KindMap, L: l} }

// nested answers a node within as many arrays as are asked for.
func nested(n api.Node, arrays int) api.Node {
	for range arrays {
		n = array(n)
	}
	return n
}

// keyed answers a node within as many maps as are asked for.
func keyed(n api.Node, maps int) api.Node {
	for range maps {
		n = mapOf(textOf("k"), n)
	}
	return n
}

// emptied answers a node whose empty lists are nil.
func emptied(n api.Node) api.Node {
	var l []api.Node
	for _, inner := range n.L {
		l = append(l, emptied(inner))
	}
	n.L = l
	return n
}

func isSame(a, b api.Node) bool { return reflect.DeepEqual(emptied(a), emptied(b)) }

// short answers the beginning of what is too long to be told.
func short(of any) string {
	s := fmt.Sprint(of)
	if len(s) > 200 {
		return s[:200] + ".. (" + strconv.Itoa(len(s)) + ")"
	}
	return s
}

// right asks all calls of a tree that has the documents.
func right(t *testing.T, n api.Node, plain string, pretty string) {
	t.Helper()
	if s, e := Write(n); s != plain || e != api.OK {
		t.Errorf("Write(%s): %s, %v; want %s", short(n), short(s), e, short(plain))
	}
	if s, e := Pretty(n); s != pretty || e != api.OK {
		t.Errorf("Pretty(%s): %s, %v; want %s", short(n), short(s), e, short(pretty))
	}
	if k, e := Size(n); k != len(plain) || e != api.OK {
		t.Errorf("Size(%s): %d, %v; want %d", short(n), k, e, len(plain))
	}
	readAgain(t, n, plain)
	readAgain(t, n, pretty)
}

// P9.2: what is written is read again as that tree, if it is not too long.
func readAgain(t *testing.T, n api.Node, s string) {
	t.Helper()
	m, e := jsonr.Read(s)
	if len(s) > api.MaxDoc {
		if e != api.ErrSize {
			t.Errorf("Read(%s): %v", short(s), e)
		}
		return
	}
	if e != api.OK || !isSame(n, m) {
		t.Errorf("Read(%s): %s, %v; want %s", short(s), short(m), e, short(n))
	}
}

// wrong asks all calls of a tree that has no document.
func wrong(t *testing.T, n api.Node, want api.Errno) {
	t.Helper()
	if s, e := Write(n); s != "" || e != want {
		t.Errorf("Write: %s, %v; want none, %v", short(s), e, want)
	}
	if s, e := Pretty(n); s != "" || e != want {
		t.Errorf("Pretty: %s, %v; want none, %v", short(s), e, want)
	}
	if k, e := Size(n); k != 0 || e != want {
		t.Errorf("Size: %d, %v; want 0, %v", k, e, want)
	}
}

// P9.1: of what has no list the pretty document is the plain one.
func TestWriteOfLeaves(t *testing.T) {
	for _, x := range []struct {
		n    api.Node
		want string
	}{
		{null(), "null"}, {truth(true), "true"}, {truth(false), "false"},
		{num("0", 0), "0"}, {one(), "1"}, {below("1", 0), "-1"}, {num("15", -1), "1.5"}, {below("15", 0), "-15"}, {num("25", -3), "0.025"}, {below("1", -1), "-0.1"}, {num("1", 1), "10"}, {num("12", 3), "12000"}, {num("12345", -2), "123.45"},
		{num("1", 20), "1" + strings.Repeat("0", 20)}, {num("1", 21), "1e21"}, {num("1", -20), "0." + strings.Repeat("0", 19) + "1"}, {num("1", -21), "1e-21"}, {below("123", 21), "-123e21"}, {below("123", -21), "-123e-21"}, {num("1", 100), "1e100"}, {num("1", -100), "1e-100"},
		{num(nines, 0), nines}, {num(nines, 20), nines + strings.Repeat("0", 20)}, {num(nines, -20), nines[:80] + "." + nines[80:]}, {num(nines, 100), nines + "e100"}, {below(nines, -100), "-" + nines + "e-100"}, {num("18446744073709551616", 0), "18446744073709551616"},
		{textOf(""), `""`}, {textOf("a"), `"a"`}, {textOf("a b"), `"a b"`}, {textOf(`"`), `"\""`}, {textOf(`\`), `"\\"`}, {textOf("/"), `"/"`}, {textOf("\b\f\n\r\t"), `"\b\f\n\r\t"`}, {textOf("\x00\x01\v\x1f"), `"\u0000\u0001\u000b\u001f"`}, {textOf("\x7f\u0080"), "\"\x7f\u0080\""}, {textOf("a\u00e9\U0001f600"), "\"a\u00e9\U0001f600\""}, {textOf("\ufffd\ufeff\u2028\U0010ffff"), "\"\ufffd\ufeff\u2028\U0010ffff\""}, {textOf("<&>'"), `"<&>'"`}, {textOf(`\n`), `"\\n"`}, {textOf("null"), `"null"`}, {textOf(`{"a":[1, 2]}`), `"{\"a\":[1, 2]}"`},
		{textOf(x400), `"` + x400 + `"`}, {textOf(e400), `"` + e400 + `"`}, {textOf(strings.Repeat(`"`, 400)), `"` + strings.Repeat(`\"`, 400) + `"`}, {textOf(strings.Repeat("\x01", 400)), `"` + strings.Repeat(`\u0001`, 400) + `"`},
		{array(), "[]"}, {mapOf(), "{}"}, {api.Node{Kind: api.KindArray, L: []api.Node{}}, "[]"}, {api.Node{Kind: api.KindMap, L: make([]api.Node, 0, 3)}, "{}"},
	} {
		right(t, x.n, x.want, x.want)
		right(t, array(x.n), "["+x.want+"]", "[\n  "+x.want+"\n]")
		right(t, array(x.n, null(), x.n), "["+x.want+",null,"+x.want+"]", "[\n  "+x.want+",\n  null,\n  "+x.want+"\n]")
		right(t, mapOf(textOf("k"), x.n), `{"k":`+x.want+"}", "{\n  \"k\": "+x.want+"\n}")
		if x.n.Kind == api.KindText {
			right(t, mapOf(x.n, one()), "{"+x.want+":1}", "{\n  "+x.want+": 1\n}")
		}
	}
}

// P9.1: the example among them.
func TestWriteOfLists(t *testing.T) {
	for _, x := range []struct {
		n             api.Node
		plain, pretty string
	}{
		{mapOf(textOf("a"), num("15", -1), textOf("b"), array()), `{"a":1.5,"b":[]}`, "{\n  \"a\": 1.5,\n  \"b\": []\n}"},
		{array(array()), "[[]]", "[\n  []\n]"},
		{array(mapOf(), array(), mapOf()), "[{},[],{}]", "[\n  {},\n  [],\n  {}\n]"},
		{array(array(one(), num("2", 0)), array(num("3", 0))), "[[1,2],[3]]", "[\n  [\n    1,\n    2\n  ],\n  [\n    3\n  ]\n]"},
		{array(one(), mapOf(textOf("k"), null()), one()), `[1,{"k":null},1]`, "[\n  1,\n  {\n    \"k\": null\n  },\n  1\n]"},
		{mapOf(textOf("b"), one(), textOf("a"), one(), textOf(""), one()), `{"b":1,"a":1,"":1}`, "{\n  \"b\": 1,\n  \"a\": 1,\n  \"\": 1\n}"},
		{mapOf(textOf("a"), textOf("a"), textOf("b"), textOf("a")), `{"a":"a","b":"a"}`, "{\n  \"a\": \"a\",\n  \"b\": \"a\"\n}"},
		{mapOf(textOf("a"), array(one()), textOf("b"), mapOf(textOf("a"), truth(true), textOf("c"), array(array(null())))), `{"a":[1],"b":{"a":true,"c":[[null]]}}`, "{\n  \"a\": [\n    1\n  ],\n  \"b\": {\n    \"a\": true,\n    \"c\": [\n      [\n        null\n      ]\n    ]\n  }\n}"},
		{mapOf(textOf("\n"), textOf("\n  ")), `{"\n":"\n  "}`, "{\n  \"\\n\": \"\\n  \"\n}"},
		{array(textOf(","), textOf("]"), textOf(": ")), `[",","]",": "]`, "[\n  \",\",\n  \"]\",\n  \": \"\n]"},
	} {
		right(t, x.n, x.plain, x.pretty)
	}
}

// P9.1: at the limits of trees, from inside.
func TestWriteAtLimits(t *testing.T) {
	right(t, nested(null(), 15), strings.Repeat("[", 15)+"null"+strings.Repeat("]", 15), deep("[", "", "]"))
	right(t, keyed(null(), 15), strings.Repeat(`{"k":`, 15)+"null"+strings.Repeat("}", 15), deep("{", `"k": `, "}"))
	right(t, array(slices.Repeat([]api.Node{null()}, 299)...), "["+strings.Repeat("null,", 298)+"null]", "[\n"+strings.Repeat("  null,\n", 298)+"  null\n]")
	var members []api.Node
	var plain []string
	for i := range 149 {
		members = append(members, textOf(strconv.Itoa(i)), num("0", 0))
		plain = append(plain, `"`+strconv.Itoa(i)+`":0`)
	}
	right(t, mapOf(members...), "{"+strings.Join(plain, ",")+"}", "{\n  "+strings.ReplaceAll(strings.Join(plain, ",\n  "), ":", ": ")+"\n}")
	// Documents may be longer than such as can be read.
	wide := slices.Repeat([]api.Node{textOf(strings.Repeat("\x00", 400))}, 299)
	if k, e := Size(array(wide...)); k != 299*2403+1 || e != api.OK {
		t.Error(k, e)
	}
	hold(t, array(wide...))
	// The greatest documents that can still be read, and those that are a byte too long.
	for more := range 2 {
		n := array(append(slices.Repeat([]api.Node{textOf(x400)}, 9), textOf(x400[:359]), null(), textOf(x400[:2+more]))...)
		if k, e := Size(n); k != api.MaxDoc+more || e != api.OK {
			t.Error(k, e)
		}
		hold(t, n)
	}
}

// deep answers the pretty document of null within fifteen lists.
func deep(begin string, key string, end string) string {
	s := "null"
	for i := 14; i >= 0; i-- {
		ahead := "\n" + strings.Repeat("  ", i)
		s = begin + ahead + "  " + key + s + ahead + end
	}
	return s
}

// P9.1: what tree.Check tells is told, and nothing else answered.
func TestWriteOfWrongTrees(t *testing.T) {
	loop := make([]api.Node, 1)
	loop[0] = api.Node{Kind: api.KindArray, L: loop}
	double := null()
	for range 60 {
		double = array(double, double)
	}
	for _, n := range []api.Node{
		{}, {Kind: -1}, {Kind: 12}, {Kind: 1 << 40}, {Kind: api.KindNull, B: true}, {Kind: api.KindNull, S: "a"}, {Kind: api.KindNull, L: []api.Node{null()}}, {Kind: api.KindBool, U: 1}, {Kind: api.KindText, B: true}, {Kind: api.KindText, S: "a", L: []api.Node{null()}}, {Kind: api.KindArray, S: "a"}, {Kind: api.KindArray, W: 1}, {Kind: api.KindMap, B: true}, {Kind: api.KindNum, D: one().D, B: true},
		{Kind: api.KindNum}, num("", 0), num("01", 0), num("10", 0), num("x", 0), num("0", 1), below("0", 0), num("1", 101), num("1", -101), num(nines+"9", 0), num("-1", 0), num("1.5", 0), num("\u0661", 0),
		textOf("\xff"), textOf("\xed\xa0\x80"), textOf("\xc0\x80"), textOf("a\xe4\xb8"), textOf("\xf4\x90\x80\x80"), textOf(x400 + "x"), textOf(e400 + "x"),
		mapOf(one()), mapOf(textOf("a")), mapOf(textOf("a"), one(), textOf("b")), mapOf(textOf("a"), one(), textOf("a"), one()), mapOf(textOf(""), one(), textOf("b"), one(), textOf(""), null()), mapOf(textOf("\xff"), one()), mapOf(textOf(x400+"x"), one()), mapOf(null(), one(), null(), one()),
		{Kind: api.KindTag}, {Kind: api.KindTag, L: []api.Node{null(), null()}}, {Kind: api.KindSimple, U: 20}, {Kind: api.KindSimple, U: 256}, {Kind: api.KindExt, U: 256}, {Kind: api.KindFloat}, {Kind: api.KindFloat, W: 8}, {Kind: api.KindFloat, W: 16, U: 1 << 16}, {Kind: api.KindBytes, S: x400 + "x"},
		nested(null(), 16), nested(array(), 16), nested(mapOf(), 1000), keyed(null(), 16), array(slices.Repeat([]api.Node{null()}, 300)...), array(make([]api.Node, 1<<20)...), double, loop[0],
	} {
		wrong(t, n, api.ErrTree)
		wrong(t, array(n), api.ErrTree)
		wrong(t, mapOf(textOf("k"), n), api.ErrTree)
		wrong(t, array(null(), textOf("a"), n, one()), api.ErrTree)
		// What fits no JSON beside it, ahead or behind, makes no difference.
		wrong(t, array(api.Node{Kind: api.KindBytes}, n), api.ErrTree)
		wrong(t, array(n, api.Node{Kind: api.KindBytes}), api.ErrTree)
	}
}

// P9.1
func TestWriteOfOtherForms(t *testing.T) {
	for _, n := range []api.Node{
		{Kind: api.KindFloat, W: 16, U: 0x3c00}, {Kind: api.KindFloat, W: 32, U: 0x3f800000}, {Kind: api.KindFloat, W: 64, U: 0x3ff0000000000000}, {Kind: api.KindFloat, W: 64}, {Kind: api.KindBytes}, {Kind: api.KindBytes, S: "a"}, {Kind: api.KindBytes, S: "\xff"}, {Kind: api.KindTag, L: []api.Node{null()}}, {Kind: api.KindTag, U: 4, L: []api.Node{array(one(), one())}}, {Kind: api.KindSimple}, {Kind: api.KindSimple, U: 23}, {Kind: api.KindSimple, U: 255}, {Kind: api.KindExt}, {Kind: api.KindExt, U: 100, S: "a"},
		mapOf(one(), one()), mapOf(null(), one()), mapOf(truth(true), one()), mapOf(array(), one()), mapOf(mapOf(), one()), mapOf(api.Node{Kind: api.KindBytes, S: "a"}, one()), mapOf(textOf("a"), one(), one(), textOf("b")), mapOf(num("15", -1), one()), mapOf(array(textOf("a")), one()),
	} {
		wrong(t, n, api.ErrForm)
		wrong(t, array(n), api.ErrForm)
		wrong(t, mapOf(textOf("k"), n), api.ErrForm)
		wrong(t, mapOf(n, one()), api.ErrForm)
		wrong(t, array(null(), textOf("a"), n, one()), api.ErrForm)
		wrong(t, nested(n, 5), api.ErrForm)
	}
}

// quoted answers a text's plain quotation, character by character.
func quoted(s string) string {
	var out strings.Builder
	for _, c := range s {
		if at := strings.IndexRune("\"\\\b\f\n\r\t", c); at >= 0 {
			out.WriteString(`\` + `"\bfnrt`[at:at+1])
		} else if c < 0x20 {
			fmt.Fprintf(&out, `\u%04x`, c)
		} else {
			out.WriteRune(c)
		}
	}
	return `"` + out.String() + `"`
}

// wrote answers a decimal's plain writing, by the library's great numbers.
func wrote(d api.Dec) string {
	sign := ""
	if d.Neg {
		sign = "-"
	}
	if d.Exp < -20 || d.Exp > 20 {
		return fmt.Sprintf("%s%se%d", sign, d.Digits, d.Exp)
	}
	r, _ := new(big.Rat).SetString(d.Digits + "e" + strconv.Itoa(d.Exp))
	return sign + r.FloatString(max(0, -d.Exp))
}

// want answers what Write must answer of a tree that fits, its parts joined.
func want(n api.Node) string {
	var parts []string
	switch n.Kind {
	case api.KindBool:
		return strconv.FormatBool(n.B)
	case api.KindNum:
		return wrote(n.D)
	case api.KindText:
		return quoted(n.S)
	case api.KindArray:
		for _, inner := range n.L {
			parts = append(parts, want(inner))
		}
		return "[" + strings.Join(parts, ",") + "]"
	case api.KindMap:
		for i := 0; i < len(n.L); i += 2 {
			parts = append(parts, want(n.L[i])+":"+want(n.L[i+1]))
		}
		return "{" + strings.Join(parts, ",") + "}"
	}
	return "null"
}

// hold holds all calls against tree.Check, the joined parts, and what the library lays out.
func hold(t *testing.T, n api.Node) {
	t.Helper()
	if e := tree.Check(n, api.FormJ); e != api.OK {
		wrong(t, n, e)
		return
	}
	plain := want(n)
	var pretty bytes.Buffer
	if err := json.Indent(&pretty, []byte(plain), "", "  "); err != nil {
		t.Errorf("%s: %v", short(plain), err)
	}
	right(t, n, plain, pretty.String())
}

// small answers all trees of at most so many nodes, of one leaf of each kind, and lists.
func small(nodes int) []api.Node {
	leaves := []api.Node{null(), truth(false), truth(true), one(), below("1", 0), num("1", 1), textOf(""), textOf("a"), textOf("1"), array(), mapOf()}
	out := slices.Clone(leaves)
	if nodes < 2 {
		return out
	}
	for _, n := range small(nodes - 1) {
		out = append(out, array(n), mapOf(textOf("a"), n), mapOf(textOf("1"), n))
		for _, m := range leaves {
			out = append(out, array(n, m), array(m, n), mapOf(textOf(""), n, textOf("a"), m), mapOf(textOf("a"), m, textOf(""), n))
		}
	}
	return out
}

// P9.2: plain documents of different trees are different, and so are pretty ones.
func TestDocumentsAreOneToOne(t *testing.T) {
	plains, pretties := map[string]api.Node{}, map[string]api.Node{}
	for _, n := range small(3) {
		plain, e := Write(n)
		pretty, f := Pretty(n)
		if e != api.OK || f != api.OK {
			t.Fatal(n, e, f)
		}
		if m, known := plains[plain]; known && !isSame(n, m) {
			t.Errorf("%s: %v and %v", plain, n, m)
		}
		if m, known := pretties[pretty]; known && !isSame(n, m) {
			t.Errorf("%s: %v and %v", pretty, n, m)
		}
		plains[plain], pretties[pretty] = n, n
	}
	for _, n := range small(2) {
		hold(t, n)
	}
	// The order of keys is the tree's, and is kept.
	a, _ := Write(mapOf(textOf("a"), one(), textOf("b"), one()))
	b, _ := Write(mapOf(textOf("b"), one(), textOf("a"), one()))
	if a == b {
		t.Error(a, b)
	}
}

// P9.2: what is read and written, and read again, is the same.
func TestReadWrittenAndReadAgain(t *testing.T) {
	for _, s := range documents() {
		n, e := jsonr.Read(s)
		if e != api.OK {
			t.Errorf("Read(%s): %v", short(s), e)
			continue
		}
		again(t, n)
	}
}

// again writes a tree that was read, reads it, and writes it again.
func again(t *testing.T, n api.Node) {
	t.Helper()
	for _, write := range []func(api.Node) (string, api.Errno){Write, Pretty} {
		s, e := write(n)
		if e != api.OK {
			t.Errorf("%s does not fit: %v", short(n), e)
			continue
		}
		readAgain(t, n, s)
		if m, e := jsonr.Read(s); e == api.OK {
			if u, f := write(m); u != s || f != api.OK {
				t.Errorf("%s was %s", short(u), short(s))
			}
		}
	}
}

// documents are some that are right, written in many ways.
func documents() []string {
	return []string{
		"null", " true ", "false\n", "-1.50e1", "1E+2", "-0.0", "0e1000", "1e100", "1e-100", "0.000e-5", "100000000000000000000000000000", `"a\u00e9\ud83d\ude00"`, `"\/\u0022\u005C\u000a\u001F"`, "[ ]", "{\t}", `{"a":[1,2.50]}`, ` { "b" : 1 , "a":{} } `, `[null,true,false,0,-0.0,1e100,"",[],{}]`,
		`{"a":{"b":{"c":[[],[{}],{"d":""}]}},"":[1,-2,3.5e-7]}`, "[[1,[2,[3,[4,[5,[6,[7,[8,[9]]]]]]]]]]", strings.Repeat("[", 16) + strings.Repeat("]", 16), "[0" + strings.Repeat(",1e20", 298) + "]", "[0" + strings.Repeat(", 0", 298) + "]", `["` + x400 + `","` + e400 + `"]`, `{"\"":"\\","\/":"\b\f\n\r\t","\u0000":"\uFFFF"}`, "\t[\n1 ,\r\n{ \"k\"\t:\t[ ] } ]\n",
	}
}

// source makes trees of the bytes that it is given, and of noughts when they are all taken.
type source struct{ left []byte }

func (s *source) next() int {
	if len(s.left) == 0 {
		return 0
	}
	b := s.left[0]
	s.left = s.left[1:]
	return int(b)
}

func pick[T any](s *source, of ...T) T { return of[s.next()%len(of)] }

func (s *source) text() api.Node {
	return textOf(pick(s, "", "a", "b", "c", "d", "\"\\/", "\x00\n", "\u00e9\U0001f600", string(rune(s.next())), string(rune(s.next()<<8|s.next())), strconv.Itoa(s.next()), x400))
}

func (s *source) tree(depth int) api.Node {
	kind := s.next() % 9
	if depth == 0 {
		kind %= 5
	}
	switch kind {
	case 0:
		return null()
	case 1:
		return truth(s.next()%2 == 1)
	case 2, 3:
		d := api.Dec{Neg: s.next()%2 == 1, Digits: strconv.Itoa(s.next()*pick(s, 1, 100, 1<<40) + 1), Exp: s.next()%202 - 101}
		return api.Node{Kind: api.KindNum, D: d}
	case 4:
		return s.text()
	case 5, 6:
		n := array()
		for range s.next() % 5 {
			n.L = append(n.L, s.tree(depth-1))
		}
		return n
	case 7:
		n := mapOf()
		for range s.next() % 5 {
			n.L = append(n.L, s.text(), s.tree(depth-1))
		}
		return n
	}
	return pick(s, num("0", 0), one(), one(), num("25", -1), truth(true), textOf("e"), api.Node{Kind: s.next() % 13, S: "a"}, mapOf(one(), one()), api.Node{Kind: api.KindFloat, W: 64})
}

// P9.1, P9.2
func TestWriteByChance(t *testing.T) {
	chance := rand.New(rand.NewSource(9))
	fits := 0
	for range 20000 {
		data := make([]byte, chance.Intn(300))
		chance.Read(data)
		s := source{data}
		n := s.tree(6)
		hold(t, n)
		if tree.Check(n, api.FormJ) == api.OK {
			fits++
			again(t, n)
		}
	}
	if fits < 5000 {
		t.Errorf("only %d fit", fits)
	}
}

// What is handed in is not written into, nor is its spare room, and the answer is the same again.
func TestNothingIsWrittenInto(t *testing.T) {
	spare := make([]api.Node, 4, 8)
	spare[0], spare[1], spare[2], spare[3] = textOf("a"), array(one(), textOf("b")), textOf("b"), mapOf(textOf("c"), null())
	kept := tree.Clone(mapOf(spare...))
	for range 2 {
		hold(t, mapOf(spare...))
		hold(t, array(spare...))
		wrong(t, mapOf(spare[:3]...), api.ErrTree)
	}
	if !isSame(mapOf(spare...), kept) || !reflect.DeepEqual(spare[4:8], make([]api.Node, 4)) {
		t.Errorf("%v was %v", spare[:8], kept)
	}
}

// FuzzJsonw holds the calls against the library, at trees made of any bytes, and at what is read of them.
func FuzzJsonw(f *testing.F) {
	for _, s := range documents() {
		f.Add([]byte(s))
	}
	for kind := range byte(9) {
		f.Add([]byte{kind, 2, 3, 4, 5, 6, 7, 8, 9})
	}
	f.Fuzz(func(t *testing.T, data []byte) {
		s := source{data}
		hold(t, s.tree(20))
		if n, e := jsonr.Read(string(data)); e == api.OK {
			hold(t, n)
			again(t, n)
		}
	})
}
