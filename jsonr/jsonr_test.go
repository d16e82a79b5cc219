package jsonr

import (
	"encoding/json"
	"math/big"
	"math/rand"
	"reflect"
	"regexp"
	"slices"
	"strconv"
	"strings"
	"testing"
	"unicode/utf8"

	"targum/api"
	"targum/dec"
	"targum/tree"
)

var (
	x400 = strings.Repeat("x", api.MaxText)
	// Two hundred characters of two bytes each.
	e400 = strings.Repeat("\u00e9", api.MaxText/2)
)

func null() api.Node { return api.Node{Kind: api.KindNull} }

func truth(b bool) api.Node { return api.Node{Kind: api.KindBool, B: b} }

func num(digits string, exp int) api.Node {
	return api.Node{Kind: api.KindNum, D: api.Dec{Digits: digits, Exp: exp}}
}

func below(digits string, exp int) api.Node {
	return api.Node{Kind: api.KindNum, D: api.Dec{Neg: true, Digits: digits, Exp: exp}}
}

func text(s string) api.Node { return api.Node{Kind: api.KindText, S: s} }

func array(l ...api.Node) api.Node { return api.Node{Kind: api.KindArray, L: l} }

func mapOf(l ...api.Node) api.Node { return api.Node{Kind: api.KindMap, L: l} }

// emptied answers a node whose empty lists are nil.
func emptied(n api.Node) api.Node {
	var l []api.Node
	for _, inner := range n.L {
		l = append(l, emptied(inner))
	}
	n.L = l
	return n
}

func isSame(a, b api.Node) bool { return reflect.DeepEqual(emptied(a), emptied(b)) }

// lists answers a text within as many arrays as are asked for.
func lists(s string, arrays int) string {
	return strings.Repeat("[", arrays) + s + strings.Repeat("]", arrays)
}

// keyed answers a text within as many maps as are asked for.
func keyed(s string, maps int) string {
	return strings.Repeat(`{"k":`, maps) + s + strings.Repeat("}", maps)
}

// short answers the beginning of what is too long to be told.
func short(s string) string {
	if len(s) > 100 {
		return s[:100] + ".. (" + strconv.Itoa(len(s)) + ")"
	}
	return s
}

func right(t *testing.T, s string, want api.Node) {
	t.Helper()
	n, e := Read(s)
	if e != api.OK || !isSame(n, want) {
		t.Errorf("Read(%q): %v, %v; want %v", short(s), n, e, want)
	}
	if !Valid(s) {
		t.Errorf("Valid(%q): false", short(s))
	}
}

func wrong(t *testing.T, s string, want api.Errno) {
	t.Helper()
	n, e := Read(s)
	if e != want || !isSame(n, api.Node{}) {
		t.Errorf("Read(%q): %v, %v; want none, %v", short(s), n, e, want)
	}
	if Valid(s) {
		t.Errorf("Valid(%q): true", short(s))
	}
}

// P8.1
func TestReadOfWords(t *testing.T) {
	right(t, "null", null())
	right(t, "true", truth(true))
	right(t, "false", truth(false))
	for _, s := range []string{
		"n", "nu", "nul", "nulll", "nullx", "null null", "null,", "null1", "Null", "NULL", "nil", "none", "t", "tru", "truex", "truefalse", "True", "TRUE", "f", "fals", "falsee", "False", "tfalse", "ftrue", "undefined", "NaN", "Infinity", "-Infinity", "n ull", "null\x00", "\x00null", "nul\u013c",
	} {
		wrong(t, s, api.ErrJson)
		wrong(t, "["+s+"]", api.ErrJson)
	}
}

// P8.1
func TestReadOfNumbers(t *testing.T) {
	nines := strings.Repeat("9", api.MaxCoef)
	for s, want := range map[string]api.Node{
		"0": num("0", 0), "-0": num("0", 0), "0.0": num("0", 0), "-0.00e5": num("0", 0), "0e1000": num("0", 0), "0E-1000": num("0", 0), "1": num("1", 0), "-1": below("1", 0), "10": num("1", 1), "2.50": num("25", -1), "-1.50e1": below("15", 0),
		"1e2": num("1", 2), "1E2": num("1", 2), "1e+2": num("1", 2), "1e-2": num("1", -2), "1e0002": num("1", 2), "0.001": num("1", -3), "9": num("9", 0), "123456789012345678901234567890": num("12345678901234567890123456789", 1),
		"1e100": num("1", 100), "1e-100": num("1", -100), "10e99": num("1", 100), "0.1e101": num("1", 100), nines: num(nines, 0), nines + "e100": num(nines, 100), "-" + nines + "e-100": below(nines, -100), nines + "0": num(nines, 1),
	} {
		right(t, s, want)
		right(t, "["+s+"]", array(want))
		right(t, `{"`+s+`":`+s+"}", mapOf(text(s), want))
	}
	for _, s := range []string{
		"-", "--1", "+1", "01", "00", "-01", "1.", ".1", "-.1", "1.e1", "1e", "1e+", "1e-", "1E", "1ee1", "1e1.5", "1.5.5", "0x10", "1_000", "1,000", "1 000", "- 1", "1e 1", "1 e1", "\u0661", "1\u0661", "1f", "1n",
		"1e101", "1e-101", "10e100", "0.1e-100", "1e1000", "1e1001", "1e00001", "0e1001", "0e-1001", "0e00000", nines + "9", "1e99999999999999999999", "1" + strings.Repeat("0", 101), "1" + strings.Repeat("0", 400), "0." + strings.Repeat("0", 400), "0." + strings.Repeat("0", 100) + "1",
	} {
		wrong(t, s, api.ErrJson)
		wrong(t, `{"a":`+s+"}", api.ErrJson)
	}
}

// P8.1
func TestReadOfTexts(t *testing.T) {
	for q, s := range map[string]string{
		`""`: "", `"a"`: "a", `"\u0061"`: "a", `"a\u00e9\ud83d\ude00"`: "a\u00e9\U0001f600", `"\"\\\/\b\f\n\r\t"`: "\"\\/\b\f\n\r\t", `"\u0000"`: "\x00", "\"\x7f\u2028\ufffd\"": "\x7f\u2028\ufffd", `" [1,{}] "`: " [1,{}] ", `"\\"`: `\`, `"\uD834\uDD1E"`: "\U0001d11e",
		`"` + x400 + `"`: x400, `"` + e400 + `"`: e400, `"` + strings.Repeat(`\u0078`, 400) + `"`: x400, `"` + strings.Repeat(`\ud83d\ude00`, 100) + `"`: strings.Repeat("\U0001f600", 100),
	} {
		right(t, q, text(s))
		right(t, "["+q+"]", array(text(s)))
		right(t, "{"+q+":1}", mapOf(text(s), num("1", 0)))
		right(t, `{"k":`+q+"}", mapOf(text("k"), text(s)))
	}
	for _, s := range []string{
		`"`, `"a`, `a"`, `'a'`, `"\"`, `"\x"`, `"\u12"`, `"\u12g4"`, `"\ud800"`, `"\udc00"`, `"\ud800\u0041"`, `"\udc00\ud800"`, "\"\n\"", "\"\t\"", "\"\x00\"", "\"\xff\"", "\"\xed\xa0\x80\"", "\"\xc0\x80\"", "\"\xe4\xb8\"", "\xff", "\"\"\"", `"a""b"`, `"a" "b"`, `"a"b`, "\"\"\xff", "\"\"\x00", "\ufeff\"\"",
	} {
		wrong(t, s, api.ErrJson)
		wrong(t, "["+s+"]", api.ErrJson)
		wrong(t, "{"+s+":1}", api.ErrJson)
		wrong(t, `{"k":`+s+"}", api.ErrJson)
	}
	for _, s := range []string{x400 + "x", e400 + "x", strings.Repeat("x", 3000)} {
		wrong(t, `"`+s+`"`, api.ErrTree)
		wrong(t, `[1,"`+s+`"]`, api.ErrTree)
		wrong(t, `{"`+s+`":1}`, api.ErrTree)
		wrong(t, `{"a":"`+s+`"}`, api.ErrTree)
		wrong(t, `"`+s, api.ErrJson)
		wrong(t, `["`+s+`",]`, api.ErrJson)
	}
}

// P8.1
func TestReadOfArrays(t *testing.T) {
	for s, want := range map[string]api.Node{
		"[]": array(), "[ ]": array(), "[\n\t\r ]": array(), "[1]": array(num("1", 0)), "[1,2]": array(num("1", 0), num("2", 0)), " [ 1 , 2 ] ": array(num("1", 0), num("2", 0)), "[[]]": array(array()), "[[],[]]": array(array(), array()), "[[[1]],2]": array(array(array(num("1", 0))), num("2", 0)),
		`[null,true,false,0,"",[],{}]`: array(null(), truth(true), truth(false), num("0", 0), text(""), array(), mapOf()), "[1,1]": array(num("1", 0), num("1", 0)), `["a","a"]`: array(text("a"), text("a")), "[{},{}]": array(mapOf(), mapOf()), "[-1,-1.5e1]": array(below("1", 0), below("15", 0)),
	} {
		right(t, s, want)
	}
	for _, s := range []string{
		"", " ", "[", "]", "[[", "[]]", "[[]", "[1", "[1,", "[1,]", "[,]", "[,1]", "[1,,2]", "[1 2]", "[1;2]", "[1:2]", `["a":1]`, `["a":1}`, "[1}", "[}", "[1)", "(1)", "[] []", "[],", ",[]", "[][]", "[]1", "1[]", "[]x", "x[]", "[1]]", "[1],[2]", "[[1],]", "[ , ]", "[/**/]", "[1]//", "[1\v]", "[1\f]", "[1\u00a0]", "[\u20281]", "[1\x00]", "[1\x80]", "[\xff]", "\ufeff[]", "[]\ufeff", "\v1", "1\f",
	} {
		wrong(t, s, api.ErrJson)
	}
}

// P8.1
func TestReadOfMaps(t *testing.T) {
	for s, want := range map[string]api.Node{
		"{}": mapOf(), "{ }": mapOf(), " {\n} ": mapOf(), `{"a":1}`: mapOf(text("a"), num("1", 0)), `{ "b" : 1 , "a":{} }`: mapOf(text("b"), num("1", 0), text("a"), mapOf()), `{"a":[1,2.50]}`: mapOf(text("a"), array(num("1", 0), num("25", -1))), `{"":""}`: mapOf(text(""), text("")), `{"a":"a","A":"a"}`: mapOf(text("a"), text("a"), text("A"), text("a")),
		`{"a":{"a":{"a":1}}}`: mapOf(text("a"), mapOf(text("a"), mapOf(text("a"), num("1", 0)))), `[{"a":1},{"a":1}]`: array(mapOf(text("a"), num("1", 0)), mapOf(text("a"), num("1", 0))), `{"\u0061":null,"b":true,"c":false}`: mapOf(text("a"), null(), text("b"), truth(true), text("c"), truth(false)),
		"{\"\u00e9\":1,\"e\u0301\":2}": mapOf(text("\u00e9"), num("1", 0), text("e\u0301"), num("2", 0)),
	} {
		right(t, s, want)
	}
	for _, s := range []string{
		"{", "}", "{}}", "{{}", "{{}}", "{{}:1}", "{[]:1}", "{1:2}", "{null:1}", "{true:1}", "{a:1}", "{'a':1}", `{"a"}`, `{"a",}`, `{"a" 1}`, `{"a":}`, `{"a":,}`, `{"a"::1}`, `{:1}`, `{"a":1,}`, `{,}`, `{,"a":1}`, `{"a":1,,"b":2}`, `{"a":1 "b":2}`, `{"a":1;"b":2}`, `{"a":1:2}`, `{"a":1]`, `{]`, `{"a"=1}`, `{"a":1`, `{"a":`, `{"a"`, `{"a`, `{"`, `{"a":1,`, `{"a":1,"b"}`, `{"a":1,"b":}`, `{"a":1,2}`, `{"a":1,2:3}`, `{"a":1}}`, `{"a":1}{}`, `{"a":1},`, `{"a":1 , }`, `{"a":"b":1}`, `{"a":1,"a":2`, `{"a":1,"a":2,}`, `{"a":1,"a"}`,
	} {
		wrong(t, s, api.ErrJson)
	}
	for _, s := range []string{
		`{"a":1,"a":2}`, `{"a":1,"a":1}`, `{"a":1,"\u0061":2}`, `{"":1,"":2}`, `{"a":1,"b":2,"a":3}`, `[{"a":1,"a":2}]`, `{"x":{"a":1,"a":2}}`, `{"\ud83d\ude00":1,"` + "\U0001f600" + `":2}`, `{"\/":1,"/":2}`, `[[],{"k":[{"b":1,"a":[],"b":{}}]}]`, `{"a":[],"a":[]} `,
	} {
		wrong(t, s, api.ErrTree)
		wrong(t, s+"x", api.ErrJson)
	}
}

// P8.1: how many bytes there are is asked ahead of all else.
func TestReadOfSizes(t *testing.T) {
	for _, s := range []string{"1", "[]", `{"a":1}`, `"a"`} {
		room := strings.Repeat(" ", api.MaxDoc-len(s))
		want, _ := Read(s)
		right(t, room+s, want)
		right(t, s+room, want)
		right(t, room[len(room)/2:]+s+room[:len(room)/2], want)
		wrong(t, " "+room+s, api.ErrSize)
		wrong(t, s+room+" ", api.ErrSize)
		wrong(t, s+room+"x", api.ErrSize)
	}
	wrong(t, strings.Repeat(" ", 4000), api.ErrJson)
	wrong(t, strings.Repeat(" ", 4001), api.ErrSize)
	wrong(t, strings.Repeat("x", 4000), api.ErrJson)
	wrong(t, strings.Repeat("x", 4001), api.ErrSize)
	wrong(t, strings.Repeat("[", 4000), api.ErrTree)
	wrong(t, strings.Repeat("[", 4001), api.ErrSize)
	wrong(t, strings.Repeat("\xff", 4001), api.ErrSize)
	wrong(t, strings.Repeat("[", 1<<22), api.ErrSize)
	wrong(t, `"`+strings.Repeat("x", 3998)+`"`, api.ErrTree)
	wrong(t, `"`+strings.Repeat("x", 3999)+`"`, api.ErrSize)
	// Bytes are counted, not characters.
	wrong(t, `"`+strings.Repeat("\u00e9", 2000)+`"`, api.ErrSize)
}

// P8.1
func TestReadOfManyNodes(t *testing.T) {
	right(t, "[0"+strings.Repeat(",0", 298)+"]", array(slices.Repeat([]api.Node{num("0", 0)}, 299)...))
	wrong(t, "[0"+strings.Repeat(",0", 299)+"]", api.ErrTree)
	wrong(t, "[0"+strings.Repeat(",0", 1990)+"]", api.ErrTree)
	wrong(t, "[0"+strings.Repeat(",0", 1990), api.ErrJson)
	wrong(t, "[0"+strings.Repeat(",0", 1990)+",]", api.ErrJson)
	wrong(t, "[[]"+strings.Repeat(",[]", 299)+"]", api.ErrTree)
	var members []string
	for i := range 150 {
		members = append(members, `"`+strconv.Itoa(i)+`":0`)
	}
	// A map has two nodes of each member, and is one itself.
	if n, e := Read("{" + strings.Join(members[:149], ",") + "}"); tree.Count(n) != 299 || e != api.OK {
		t.Error(tree.Count(n), e)
	}
	if n, e := Read("[0,{" + strings.Join(members[:149], ",") + "}]"); n.Kind != 0 || e != api.ErrTree {
		t.Error(tree.Count(n), e)
	}
	wrong(t, "{"+strings.Join(members, ",")+"}", api.ErrTree)
}

// P8.1
func TestReadOfDepths(t *testing.T) {
	for _, wrap := range []func(string, int) string{lists, keyed} {
		for _, empty := range []string{"[]", "{}", "[ ]"} {
			if n, e := Read(wrap(empty, 15)); tree.Depth(n) != 16 || e != api.OK {
				t.Error(tree.Depth(n), e)
			}
			wrong(t, wrap(empty, 16), api.ErrTree)
			wrong(t, wrap(empty, 100), api.ErrTree)
		}
		for _, leaf := range []string{"1", "null", `"a"`} {
			if n, e := Read(wrap(leaf, 15)); tree.Depth(n) != 16 || e != api.OK {
				t.Error(tree.Depth(n), e)
			}
			wrong(t, wrap(leaf, 16), api.ErrTree)
			// What is too deep, but begins no list, is told behind all that is no document.
			wrong(t, wrap(leaf+",", 16), api.ErrJson)
			wrong(t, wrap(leaf, 16)+"x", api.ErrJson)
			wrong(t, strings.TrimRight(wrap(leaf, 16), "]}"), api.ErrJson)
		}
	}
	if n, e := Read(keyed(lists("{}", 7), 8)); tree.Depth(n) != 16 || e != api.OK {
		t.Error(tree.Depth(n), e)
	}
	// Depth is that of lists that are not ended, not how many there are.
	wide := strings.Repeat(lists("", 15)+","+keyed("[]", 14)+",", 5) + "1"
	if n, e := Read("[" + wide + "]"); tree.Depth(n) != 16 || e != api.OK {
		t.Error(tree.Depth(n), e)
	}
	wrong(t, "["+wide+","+lists("", 16)+"]", api.ErrTree)
}

// P8.1: of a list that is too deep and of what is no document the one that comes first is told.
func TestReadOfDepthsAndNoDocuments(t *testing.T) {
	deep, maps := strings.Repeat("[", 16), strings.Repeat(`{"k":`, 16)
	for _, s := range []string{
		deep + "[", deep + "{", maps + "[", maps + "{", deep + " [", deep + "\n{", maps + "\t[x", deep + "[1e999", deep + "{1", deep + "[]]]]]}", deep + "[\xff", deep + "1,[", deep + "[],", `[{"a":1,"a":2},` + deep, `["` + x400 + `x",` + deep, deep[:15] + `{"a":[`, maps[:75] + "[[", maps[:75] + `["a",{`, deep + `"a" , {`,
		"[0" + strings.Repeat(",0", 400) + "," + deep + "}",
	} {
		wrong(t, s, api.ErrTree)
	}
	for _, s := range []string{
		deep, maps, deep + "x[", deep + ",[", deep + "1[", deep + "1 [", deep + "][", deep + "]{", deep + ":[", maps + "}[", maps + `"a":[`, maps + "1{", deep[:15] + "{[", deep[:15] + "{{", deep[:15] + `{"a"[`, deep[:15] + `{"a":1,[`, deep[:15] + `{"a":1,{`, deep[:15] + `{1:[`, deep + `"[`, deep + `"["`, deep + `"\[[`, deep + "\v[", deep + "\xff[", deep + "\u00a0[", deep + "/[",
		"[1e101," + deep, "[01," + deep, `["\ud800",` + deep, "[1 " + deep, "[," + deep, "nul" + deep, "1" + deep, "1 " + deep + "[", "[]" + deep + "[", "]" + deep, "x" + deep, "{" + deep, `{"a"` + deep, `{"a":1 ` + deep, `{"a":1,` + deep, "[1e99999," + deep, "[\"\n\"," + deep, "\ufeff" + deep + "[", deep + "1,][",
	} {
		wrong(t, s, api.ErrJson)
	}
}

// P8.1
func TestSpace(t *testing.T) {
	for s, want := range map[string]string{
		"": "", " ": "", " \t\n\r": "", " \t\n\r x ": "x ", "x": "x", "x ": "x ", "\n\n\nx\n": "x\n", " \v": "\v", "\f ": "\f ", " \x00 ": "\x00 ", " \u00a0 ": "\u00a0 ", " \u0085": "\u0085", " \u2028": "\u2028", " \ufeff ": "\ufeff ", " \u3000": "\u3000", " \xff ": "\xff ", "\xff ": "\xff ", " \x80": "\x80", " \xc2": "\xc2", "\xa0": "\xa0", "\x20\x09\x0a\x0d\x20[": "[", " \ufffd": "\ufffd", " \u0120": "\u0120", " \U0001f600 ": "\U0001f600 ",
	} {
		if got := Space(s); got != want {
			t.Errorf("Space(%q): %q, want %q", s, got, want)
		}
	}
	for b := range 256 {
		s := string([]byte{byte(b)})
		isSpace := b == 0x20 || b == 0x09 || b == 0x0a || b == 0x0d
		if (Space(s+"x") == "x") != isSpace || (Space(s) == "") != isSpace || Valid(s+"[]") != isSpace || Valid("[]"+s) != isSpace || Valid("[\"\""+s+"]") != isSpace {
			t.Errorf("%q", s)
		}
	}
	// There is no limit but the bound of all.
	if Space(strings.Repeat(" \n\t\r", 1<<18)+"x") != "x" {
		t.Error("much space")
	}
}

// tokenOf finds the word, the mark, the number or the quotation that a text begins with.
var tokenOf = regexp.MustCompile(`^(?:[\[\]{},:]|null|true|false|-?(?:0|[1-9][0-9]*)(?:\.[0-9]+)?(?:[eE][-+]?[0-9]+)?|"(?:[^"\\\x00-\x1f]|\\["\\/bfnrt]|\\u(?:[0-9a-cA-CefEF][0-9a-fA-F]{3}|[dD][0-7][0-9a-fA-F]{2}|[dD][89abAB][0-9a-fA-F]{2}\\u[dD][c-fC-F][0-9a-fA-F]{2}))*")`)

// tokens answers those of a text, space aside; the last one is empty, if what is left is none.
func tokens(s string) []string {
	var out []string
	for {
		s = strings.TrimLeft(s, " \t\r\n")
		if s == "" {
			return out
		}
		token := tokenOf.FindString(s)
		if !utf8.ValidString(token) {
			token = ""
		}
		out = append(out, token)
		if token == "" {
			return out
		}
		s = s[len(token):]
	}
}

// leaf answers the node of a token that is a value by itself.
func leaf(token string) (api.Node, bool) {
	switch {
	case token == "null":
		return null(), true
	case token == "true" || token == "false":
		return truth(token == "true"), true
	case strings.HasPrefix(token, `"`):
		var s string
		err := json.Unmarshal([]byte(token), &s)
		return text(s), err == nil
	}
	d, behind, e := dec.Parse(token)
	return api.Node{Kind: api.KindNum, D: d}, behind == "" && e == api.OK
}

// want answers what Read must answer, by a machine that goes from token to token, with a stack of what is not ended.
func want(s string) (api.Node, api.Errno) {
	if len(s) > 4000 {
		return api.Node{}, api.ErrSize
	}
	// What may come next: v a value, e the end of the list, k a key, c a colon, m a comma; nothing behind the document.
	next := "v"
	stack := []api.Node{{}}
	after := func() string {
		if len(stack) == 1 {
			return ""
		}
		return "me"
	}
	for _, token := range tokens(s) {
		top := &stack[len(stack)-1]
		switch {
		case (token == "[" || token == "{") && strings.Contains(next, "v"):
			if len(stack) == 17 {
				return api.Node{}, api.ErrTree
			}
			stack, next = append(stack, array()), "ve"
			if token == "{" {
				stack[len(stack)-1].Kind, next = api.KindMap, "ke"
			}
		case (token == "]" && top.Kind == api.KindArray || token == "}" && top.Kind == api.KindMap) && strings.Contains(next, "e"):
			stack = stack[:len(stack)-1]
			ended := *top
			top = &stack[len(stack)-1]
			top.L, next = append(top.L, ended), after()
		case token == "," && strings.Contains(next, "m"):
			next = "v"
			if top.Kind == api.KindMap {
				next = "k"
			}
		case token == ":" && next == "c":
			next = "v"
		case strings.Contains(next, "k") && strings.HasPrefix(token, `"`), strings.Contains(next, "v"):
			n, ok := leaf(token)
			if !ok {
				return api.Node{}, api.ErrJson
			}
			top.L = append(top.L, n)
			if next[0] == 'k' {
				next = "c"
			} else {
				next = after()
			}
		default:
			return api.Node{}, api.ErrJson
		}
	}
	if next != "" {
		return api.Node{}, api.ErrJson
	}
	if count := 0; !isTree(stack[0].L[0], 1, &count) {
		return api.Node{}, api.ErrTree
	}
	return stack[0].L[0], api.OK
}

// isTree tells whether a node that was read is within all limits, and has no key twice.
func isTree(n api.Node, depth int, count *int) bool {
	*count++
	if depth > 16 || *count > 300 || len(n.S) > 400 {
		return false
	}
	keys := map[string]int{}
	for i, inner := range n.L {
		if !isTree(inner, depth+1, count) {
			return false
		}
		if n.Kind == api.KindMap && i%2 == 0 {
			keys[inner.S]++
			if keys[inner.S] > 1 {
				return false
			}
		}
	}
	return true
}

// hold holds Read against the machine, and what it answers against P8.2.
func hold(t *testing.T, s string) {
	t.Helper()
	n, e := want(s)
	if e != api.OK {
		wrong(t, s, e)
		return
	}
	right(t, s, n)
	n, _ = Read(s)
	if e := tree.Check(n, api.FormJ); e != api.OK {
		t.Errorf("Read(%q): %v, which does not fit: %v", short(s), n, e)
	}
	if !json.Valid([]byte(s)) {
		t.Errorf("Read(%q): %v, which the library does not take", short(s), n)
	}
	holdNumbers(t, s, n)
}

// holdNumbers holds the numbers of a tree against those that the library reads.
func holdNumbers(t *testing.T, s string, n api.Node) {
	t.Helper()
	var read []*big.Rat
	decoder := json.NewDecoder(strings.NewReader(s))
	decoder.UseNumber()
	for {
		token, err := decoder.Token()
		if err != nil {
			break
		}
		if number, ok := token.(json.Number); ok {
			r, _ := new(big.Rat).SetString(string(number))
			read = append(read, r)
		}
	}
	var got []*big.Rat
	var walk func(api.Node)
	walk = func(n api.Node) {
		if n.Kind == api.KindNum {
			r, _ := new(big.Rat).SetString(n.D.Digits + "e" + strconv.Itoa(n.D.Exp))
			if n.D.Neg {
				r.Neg(r)
			}
			got = append(got, r)
		}
		for _, inner := range n.L {
			walk(inner)
		}
	}
	walk(n)
	if !slices.EqualFunc(read, got, func(a, b *big.Rat) bool { return a.Cmp(b) == 0 }) {
		t.Errorf("Read(%q): numbers %v, want %v", short(s), got, read)
	}
}

// all goes through all texts of at most as many of the given ones as is asked for.
func all(given []string, most int, do func(string)) {
	var grow func(string, int)
	grow = func(s string, room int) {
		do(s)
		if room == 0 {
			return
		}
		for _, g := range given {
			grow(s+g, room-1)
		}
	}
	grow("", most)
}

// P8.1, P8.2
func TestReadOfAllShortOnes(t *testing.T) {
	all([]string{"[", "]", "{", "}", ",", ":", `"a"`, "1"}, 6, func(s string) {
		n, e := Read(s)
		if m, f := want(s); e != f || !isSame(n, m) {
			t.Errorf("Read(%q): %v, %v; want %v, %v", s, n, e, m, f)
		}
	})
	all([]string{"[", "]", ",", " ", `"`, "\\", "u", "1", "0", "-", ".", "e", "null", "\xff"}, 4, func(s string) { hold(t, s) })
	// All that can stand within fifteen lists.
	ahead, behind := strings.Repeat(`[{"k":`, 7)+"[", "]"+strings.Repeat("}]", 7)
	all([]string{"[", "]", "{", "}", ",", `"a":`, "1", "x"}, 4, func(s string) {
		hold(t, ahead+s+behind)
		hold(t, ahead+s)
	})
}

// some are documents of many shapes.
func some() []string {
	return []string{
		"null", "true", "false", "-1.50e1", `"a\u00e9\ud83d\ude00"`, "[]", "{}", `{"a":[1,2.50]}`, "[1,]", `{"a":1,"a":2}`, ` { "b" : 1 , "a":{} } `, `[null,true,false,0,-0.0,1e100,"",[],{}]`,
		`{"a":{"b":{"c":[[],[{}],{"d":""}]}},"":[1,-2,3.5e-7]}`, "[[1,[2,[3,[4,[5,[6,[7,[8,[9]]]]]]]]]]", lists("1", 15), keyed("[]", 15), lists("1", 16), keyed("{}", 16), lists("[", 16),
		"[0" + strings.Repeat(",0", 298) + "]", "[0" + strings.Repeat(", 0", 299) + "]", `["` + x400 + `","` + e400 + `"]`, `{"` + x400 + `":1,"` + e400 + `x":2}`, `{"\"":"\\","\/":"\b\f\n\r\t","\u0000":"\uFFFF"}`, "\t[\n1 ,\r\n{ \"k\"\t:\t[ ] } ]\n",
	}
}

// P8.1, P8.2
func TestReadOfSome(t *testing.T) {
	for _, s := range some() {
		hold(t, s)
		for i := range min(len(s), 300) {
			hold(t, s[:i])
			hold(t, s[i:])
			hold(t, s[:i]+s[i+1:])
			for _, c := range []string{" ", ",", "]", "{", `"`, "0", "\\", "\xff"} {
				hold(t, s[:i]+c+s[i:])
			}
		}
	}
}

// P8.1, P8.2
func TestReadByChance(t *testing.T) {
	random := rand.New(rand.NewSource(8))
	letters := "[]{},:\"\\ \t\n\r\v019.-+eEnulltruefalsabcd/\x00\xc3\xa9\xff"
	for range 30000 {
		s := []byte(some()[random.Intn(len(some()))])
		for range random.Intn(4) {
			at := random.Intn(len(s) + 1)
			switch random.Intn(4) {
			case 0:
				s = slices.Insert(s, at, letters[random.Intn(len(letters))])
			case 1:
				s = slices.Delete(s, at, min(at+1+random.Intn(3), len(s)))
			case 2:
				s = slices.Insert(s, at, []byte(some()[random.Intn(len(some()))])...)
			case 3:
				other := random.Intn(len(s) + 1)
				s = slices.Insert(s, at, s[min(at, other):max(at, other)]...)
			}
		}
		hold(t, string(s))
	}
}

// madeUp answers a document by chance, its tokens with what is given between them.
func madeUp(random *rand.Rand, depth int, space func() string) string {
	leaves := []string{"null", "true", "false", "0", "-1.5", "2e3", `"a"`, `"\u00e9\n"`, `" "`}
	kind := random.Intn(3)
	if depth == 0 || kind == 0 {
		return leaves[random.Intn(len(leaves))]
	}
	var items []string
	for i := range random.Intn(4) {
		item := space() + madeUp(random, depth-1, space) + space()
		if kind == 1 {
			item = space() + strconv.Quote(strconv.Itoa(i)) + space() + ":" + item
		}
		items = append(items, item)
	}
	inner := strings.Join(items, ",") + space()
	if kind == 1 {
		return "{" + inner + "}"
	}
	return "[" + inner + "]"
}

// P8.2
func TestSpaceMakesNoDifference(t *testing.T) {
	for seed := range int64(3000) {
		bare := madeUp(rand.New(rand.NewSource(seed)), 4, func() string { return "" })
		n, e := Read(bare)
		hold(t, bare)
		spaces, i := []string{"", " ", "\n", "\t\r", " \n\t\r ", "\r\n  "}, seed
		random := rand.New(rand.NewSource(seed))
		spaced := madeUp(random, 4, func() string {
			i++
			return spaces[i%int64(len(spaces))]
		})
		hold(t, spaced)
		m, f := Read(" \n" + spaced + "\r\t")
		if len(spaced) < 3900 && (e != f || !isSame(n, m)) {
			t.Errorf("%q: %v, %v; %q: %v, %v", bare, n, e, spaced, m, f)
		}
		// What the library lays out anew, or without space, is the same.
		var compact any = json.RawMessage(spaced)
		again, err := json.Marshal(compact)
		if k, g := Read(string(again)); err == nil && (g != e || !isSame(k, n)) {
			t.Errorf("%q: %v, %v; %q: %v, %v", bare, n, e, again, k, g)
		}
	}
	for _, s := range []string{"nu ll", "tr\nue", "1 0", "1. 5", "1 e5", "- 1", `"\u 0061"`, "\"\\\n\""} {
		wrong(t, s, api.ErrJson)
	}
	right(t, `" a\n "`, text(" a\n "))
}

// What is answered shares no list, spare room too, with what else is answered.
func TestReadSharesNothing(t *testing.T) {
	s := `[[1,2,3],[1,2,3],{"a":1,"b":[4,5,6]},[],{}]`
	first, _ := Read(s)
	second, _ := Read(s)
	kept := tree.Clone(second)
	var scribble func(n *api.Node)
	scribble = func(n *api.Node) {
		for i := range n.L {
			scribble(&n.L[i])
		}
		room := n.L[:cap(n.L)]
		for i := range room {
			room[i] = api.Node{Kind: -1}
		}
	}
	for i := range first.L {
		before := tree.Clone(array(first.L[i+1:]...))
		scribble(&first.L[i])
		if !isSame(before, array(first.L[i+1:]...)) {
			t.Errorf("a list is shared with that at %d", i)
		}
	}
	scribble(&first)
	if !isSame(second, kept) {
		t.Error("two answers share a list")
	}
}

func FuzzJsonr(f *testing.F) {
	for _, s := range some() {
		f.Add(s)
	}
	f.Fuzz(func(t *testing.T, s string) {
		hold(t, s)
		if Space(s) != strings.TrimLeft(s, " \t\n\r") {
			t.Errorf("Space(%q)", short(s))
		}
		if n, e := Read(s); e == api.OK && len(s) < api.MaxDoc-1 {
			right(t, "\n"+s+"\t", n)
		}
	})
}
