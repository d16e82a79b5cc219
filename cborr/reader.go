package cborr

import (
	"iter"
	"strings"

	"targum/api"
	"targum/dec"
	"targum/nat"
	"targum/tree"
)

// document answers the tree of a document, which fits FormC, or the document's fault.
func document(s string) (api.Node, error) {
	if len(s) > api.MaxDoc {
		return api.Node{}, fault{api.ErrSize}
	}
	r := newReader(s)
	n, err := r.item()
	if err != nil {
		return api.Node{}, err
	}
	if err := firstOf(r.nothing(), tree.Check(n, api.FormC)); err != nil {
		return api.Node{}, err
	}
	return n, nil
}

// part takes what follows an item's head off, and answers the item's node.
type part func(heading) (api.Node, error)

// reader reads items off what is left, within as many others as it has begun and not ended.
type reader struct {
	left
	within int
	majors [8]part
}

// newReader answers a reader of all bytes.
func newReader(s string) *reader {
	r := &reader{left: left{s}}
	r.majors = [8]part{
		api.MajorPlus:  r.number,
		api.MajorMinus: r.number,
		api.MajorBytes: r.bytes,
		api.MajorText:  r.text,
		api.MajorArray: r.array,
		api.MajorMap:   r.members,
		api.MajorTag:   r.tag,
		api.MajorOther: r.other,
	}
	return r
}

// item takes an item off.
func (r *reader) item() (api.Node, error) {
	// Told at the first byte, whatever head it begins: what is wrong behind it is not looked at, and the depth of calls has a bound.
	if r.within == api.MaxDepth && r.s != "" {
		return api.Node{}, fault{api.ErrTree}
	}
	h, err := r.heading()
	if err != nil {
		return api.Node{}, err
	}
	if !h.begins() {
		return api.Node{}, fault{api.ErrCbor}
	}
	r.within++
	n, err := r.majors[h.major](h)
	r.within--
	return n, err
}

// number takes nothing off: a number is its head alone.
func (r *reader) number(h heading) (api.Node, error) {
	d := dec.OfInt(false, h.arg)
	if h.major == api.MajorMinus {
		// The argument's own type may not hold one more than it. There are twenty digits at most: no error is to be told.
		digits, _ := nat.Add(nat.Of(h.arg), "1")
		d, _ = dec.Make(true, digits, 0)
	}
	return api.Node{Kind: api.KindNum, D: d}, nil
}

func (r *reader) bytes(h heading) (api.Node, error) {
	return r.joined(api.KindBytes, h)
}

func (r *reader) text(h heading) (api.Node, error) {
	return r.joined(api.KindText, h)
}

// joined takes the bytes of a node off: those of all chunks, if it is open.
func (r *reader) joined(kind int, h heading) (api.Node, error) {
	if !h.isOpen() {
		s, err := r.take(h.arg)
		if err != nil {
			return api.Node{}, err
		}
		return api.Node{Kind: kind, S: s}, nil
	}
	var chunks strings.Builder
	for chunk, err := range r.through(h, r.chunkOf(h.major)) {
		if err != nil {
			return api.Node{}, err
		}
		chunks.WriteString(chunk.S)
	}
	return api.Node{Kind: kind, S: chunks.String()}, nil
}

// chunkOf answers what takes a chunk of a major off, which is an item, but within none.
func (r *reader) chunkOf(major int) func() (api.Node, error) {
	return func() (api.Node, error) {
		h, err := r.heading()
		if err != nil {
			return api.Node{}, err
		}
		if h.major != major || h.isOpen() {
			return api.Node{}, fault{api.ErrCbor}
		}
		return r.majors[major](h)
	}
}

func (r *reader) array(h heading) (api.Node, error) {
	return r.list(api.KindArray, h, r.item)
}

func (r *reader) members(h heading) (api.Node, error) {
	return r.list(api.KindMap, h, r.item, r.item)
}

// list takes the nodes of a list off, each round of them by its parts in turn.
func (r *reader) list(kind int, h heading, round ...func() (api.Node, error)) (api.Node, error) {
	n := api.Node{Kind: kind}
	var wrong error
items:
	for inner, err := range r.through(h, round...) {
		if err != nil {
			wrong = err
			break items
		}
		n.L = append(n.L, inner)
	}
	if wrong != nil {
		return api.Node{}, wrong
	}
	return n, nil
}

func (r *reader) tag(h heading) (api.Node, error) {
	inner, err := r.item()
	if err != nil {
		return api.Node{}, err
	}
	return api.Node{Kind: api.KindTag, U: h.arg, L: []api.Node{inner}}, nil
}

// other takes nothing off: what is of major 7 is its head alone.
func (r *reader) other(h heading) (api.Node, error) {
	switch {
	case h.info == infoFalse || h.info == infoTrue:
		return api.Node{Kind: api.KindBool, B: h.info == infoTrue}, nil
	case h.info == infoNull:
		return api.Node{Kind: api.KindNull}, nil
	case h.info >= infoFloat16 && h.info <= infoFloat64:
		// The argument has the float's bytes: each info doubles those of the one ahead.
		return api.Node{Kind: api.KindFloat, W: api.Width16 << (h.info - infoFloat16), U: h.arg}, nil
	}
	return api.Node{Kind: api.KindSimple, U: h.arg}, nil
}

// through goes through the items behind a head: as many rounds as its argument says, or, if it is open, all up to the byte that ends it, which is taken off; what is wrong comes last, as an error.
func (r *reader) through(h heading, round ...func() (api.Node, error)) iter.Seq2[api.Node, error] {
	return func(yield func(api.Node, error) bool) {
		// Rounds are counted, not items: twice an argument may be more than its type holds.
		for count := uint64(0); h.isOpen() || count < h.arg; count++ {
			if h.isOpen() && r.ends() {
				return
			}
			for _, read := range round {
				n, err := read()
				if !yield(n, err) || err != nil {
					return
				}
			}
		}
	}
}
