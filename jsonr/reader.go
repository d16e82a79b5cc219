package jsonr

import (
	"iter"
	"strconv"
	"strings"

	"targum/api"
	"targum/dec"
	"targum/tree"
	"targum/utf"
)

// fault is what is wrong with a document, by the error that is told of it.
type fault struct{ errno api.Errno }

func (f fault) Error() string {
	return "jsonr: error " + strconv.Itoa(int(f.errno))
}

// document answers the right tree of a document, or its fault.
func document(s string) (api.Node, error) {
	var n api.Node
	var err error
	if len(s) > api.MaxDoc {
		err = fault{api.ErrSize}
		goto none
	}
	n, err = newReader(s).whole()
	if err != nil {
		goto none
	}
	if !tree.Right(n) {
		err = fault{api.ErrTree}
		goto none
	}
	return n, nil
none:
	return api.Node{}, err
}

// left is what of a document is not read yet.
type left struct{ s string }

// skip takes space off.
func (l *left) skip() {
	l.s = Space(l.s)
}

// word takes the first of words that stands there off, and answers it; an empty one, if none does.
func (l *left) word(words ...string) string {
	for _, w := range words {
		if strings.HasPrefix(l.s, w) {
			l.s = l.s[len(w):]
			return w
		}
	}
	return ""
}

// The words that values are, and the marks around and between those of a list.
const (
	wordNull   = "null"
	wordTrue   = "true"
	wordFalse  = "false"
	beginArray = "["
	endArray   = "]"
	beginMap   = "{"
	endMap     = "}"
	between    = ","
	behindKey  = ":"
)

// part takes a node off what is left, without the space around it.
type part func() (api.Node, error)

// reader reads values off what is left, within as many lists as it has begun and not ended.
type reader struct {
	left
	within int
	parts  map[byte]part
}

// newReader answers a reader of a whole text.
func newReader(s string) *reader {
	r := &reader{left: left{s}}
	r.parts = r.beginnings()
	return r
}

// beginnings answers what reads a value, for each byte that one begins with.
func (r *reader) beginnings() map[byte]part {
	out := map[byte]part{
		'n': r.null,
		't': r.truth,
		'f': r.truth,
		'"': r.text,
		'[': r.array,
		'{': r.members,
		'-': r.number,
	}
	for digit := byte('0'); digit <= '9'; digit++ {
		out[digit] = r.number
	}
	return out
}

// whole takes a value off, the space around it too; nothing may be behind it.
func (r *reader) whole() (api.Node, error) {
	r.skip()
	n, err := r.value()
	if err != nil {
		return api.Node{}, err
	}
	r.skip()
	if r.s != "" {
		return api.Node{}, fault{api.ErrJson}
	}
	return n, nil
}

// value takes a value off.
func (r *reader) value() (api.Node, error) {
	if r.s == "" {
		return api.Node{}, fault{api.ErrJson}
	}
	read, known := r.parts[r.s[0]]
	if !known {
		return api.Node{}, fault{api.ErrJson}
	}
	return read()
}

func (r *reader) null() (api.Node, error) {
	if r.word(wordNull) == "" {
		return api.Node{}, fault{api.ErrJson}
	}
	return api.Node{Kind: api.KindNull}, nil
}

func (r *reader) truth() (api.Node, error) {
	w := r.word(wordTrue, wordFalse)
	if w == "" {
		return api.Node{}, fault{api.ErrJson}
	}
	return api.Node{Kind: api.KindBool, B: w == wordTrue}, nil
}

func (r *reader) number() (api.Node, error) {
	d, behind, e := dec.Parse(r.s)
	if e != api.OK {
		return api.Node{}, fault{api.ErrJson}
	}
	r.s = behind
	return api.Node{Kind: api.KindNum, D: d}, nil
}

func (r *reader) text() (api.Node, error) {
	text, behind, e := utf.Unquote(r.s)
	if e != api.OK {
		return api.Node{}, fault{api.ErrJson}
	}
	r.s = behind
	return api.Node{Kind: api.KindText, S: text}, nil
}

// key takes a member's text off, and the mark that must follow it.
func (r *reader) key() (api.Node, error) {
	n, err := r.text()
	if err != nil {
		return api.Node{}, err
	}
	r.skip()
	if r.word(behindKey) == "" {
		return api.Node{}, fault{api.ErrJson}
	}
	return n, nil
}

func (r *reader) array() (api.Node, error) {
	return r.list(api.KindArray, beginArray, endArray, r.value)
}

func (r *reader) members() (api.Node, error) {
	return r.list(api.KindMap, beginMap, endMap, r.key, r.value)
}

// list takes a node with a list off, whose items have the parts that are given, in turn.
func (r *reader) list(kind int, begin string, end string, item ...part) (api.Node, error) {
	// Told where the list begins: what is wrong behind this place is not looked at, and the depth of calls has a bound.
	if r.within == api.MaxDepth {
		return api.Node{}, fault{api.ErrTree}
	}
	r.within++
	r.word(begin)
	n := api.Node{Kind: kind}
	for inner, err := range r.through(end, item...) {
		if err != nil {
			return api.Node{}, err
		}
		n.L = append(n.L, inner)
	}
	r.within--
	return n, nil
}

// through goes through the nodes of a list, up to the mark that ends it, which is taken off; what is wrong comes last, as an error.
func (r *reader) through(end string, item ...part) iter.Seq2[api.Node, error] {
	return func(yield func(api.Node, error) bool) {
		r.skip()
		mark := r.word(end)
		for mark != end {
			for _, read := range item {
				r.skip()
				n, err := read()
				if !yield(n, err) || err != nil {
					return
				}
			}
			r.skip()
			mark = r.word(between, end)
			if mark == "" {
				yield(api.Node{}, fault{api.ErrJson})
				return
			}
		}
	}
}
