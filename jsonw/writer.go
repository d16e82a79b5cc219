package jsonw

import (
	"iter"
	"strings"

	"targum/api"
	"targum/dec"
	"targum/tree"
	"targum/utf"
)

// document answers the document of a tree in a layout.
func document(n api.Node, l layout) (string, api.Errno) {
	if e := tree.Check(n, api.FormJ); e != api.OK {
		return "", e
	}
	w := newWriter(l)
	w.node(n)
	return w.String(), api.OK
}

// layout is what stands in a document beside words and marks: at the end of a line, ahead of what is on it for each list that it is in, and behind the mark that follows a key. The plain document has none of these.
type layout struct {
	endLine string
	deeper  string
	blank   string
}

// text is what is written so far.
type text struct{ strings.Builder }

// put writes words.
func (t *text) put(words ...string) {
	for _, w := range words {
		t.WriteString(w)
	}
}

// The words that values are, and the marks around and between those of a list.
const (
	wordNull   = "null"
	wordTrue   = "true"
	wordFalse  = "false"
	beginArray = "["
	endArray   = "]"
	beginMap   = "{"
	endMap     = "}"
	between    = ","
	behindKey  = ":"
)

// writer writes nodes to its text, within as many lists as it has begun and not ended.
type writer struct {
	text
	layout
	within int
	parts  map[int]func(api.Node)
}

// newWriter answers a writer that has written nothing.
func newWriter(l layout) *writer {
	w := &writer{layout: l}
	w.parts = map[int]func(api.Node){
		api.KindNull:  w.null,
		api.KindBool:  w.truth,
		api.KindNum:   w.number,
		api.KindText:  w.quotation,
		api.KindArray: w.array,
		api.KindMap:   w.members,
	}
	return w
}

// node writes a node of a tree that fits: its kind is one of those that have a part.
func (w *writer) node(n api.Node) {
	w.parts[n.Kind](n)
}

func (w *writer) null(api.Node) {
	w.put(wordNull)
}

func (w *writer) truth(n api.Node) {
	if n.B {
		w.put(wordTrue)
		return
	}
	w.put(wordFalse)
}

func (w *writer) number(n api.Node) {
	// The decimal of a right node is right: there is no error to be told.
	s, _ := dec.Format(n.D)
	w.put(s)
}

func (w *writer) quotation(n api.Node) {
	// What a right node of this kind has is a text: there is no error to be told.
	s, _ := utf.Quote(n.S)
	w.put(s)
}

func (w *writer) array(n api.Node) {
	w.list(n.L, beginArray, endArray, between)
}

func (w *writer) members(n api.Node) {
	w.list(n.L, beginMap, endMap, behindKey, between)
}

// list writes nodes between two marks, and behind each one, but the last, one of the marks that are given, in turn.
func (w *writer) list(nodes []api.Node, begin string, end string, marks ...string) {
	w.put(begin)
	defer w.put(end)
	if len(nodes) == 0 {
		return
	}
	w.newLine(1)
	defer w.newLine(-1)
nodes:
	for n, mark := range through(nodes, marks...) {
		w.node(n)
		switch mark {
		case behindKey:
			w.put(mark, w.blank)
		case between:
			w.put(mark)
			w.newLine(0)
		default:
			break nodes
		}
	}
}

// newLine ends a line, and begins one that is within so many lists more; below 0, so many fewer.
func (w *writer) newLine(more int) {
	w.within += more
	w.put(w.endLine, strings.Repeat(w.deeper, w.within))
}

// through goes through nodes, each with the mark behind it, those that are given in turn; behind the last node there is none.
func through(nodes []api.Node, marks ...string) iter.Seq2[api.Node, string] {
	return func(yield func(api.Node, string) bool) {
		for place, n := range nodes {
			mark := marks[place%len(marks)]
			if place == len(nodes)-1 {
				mark = ""
			}
			if !yield(n, mark) {
				return
			}
		}
	}
}
