package cborw

import (
	"iter"
	"strings"

	"targum/api"
	"targum/dec"
	"targum/head"
)

// The infos of major 7 that are a node each.
const (
	infoFalse   = 20
	infoTrue    = 21
	infoNull    = 22
	infoFloat16 = 25
	infoFloat32 = 26
	infoFloat64 = 27
)

// octets are the bytes that are written so far.
type octets struct{ strings.Builder }

// put writes bytes.
func (o *octets) put(bytes ...byte) {
	o.Write(bytes)
}

// head writes the shortest head.
func (o *octets) head(major int, arg uint64) {
	// No other majors are asked for than there are: there is no error to be told.
	h, _ := head.Make(major, arg)
	o.WriteString(h)
}

// bits writes the lowest bits of a number, as many as a width, the highest of them first.
func (o *octets) bits(u uint64, width int) {
	for shift := width - 8; shift >= 0; shift -= 8 {
		o.put(byte(u >> shift))
	}
}

// writer writes nodes to its bytes.
type writer struct {
	octets
	parts map[int]func(api.Node)
}

// newWriter answers a writer that has written nothing.
func newWriter() *writer {
	w := &writer{}
	w.parts = map[int]func(api.Node){
		api.KindNull:   w.null,
		api.KindBool:   w.truth,
		api.KindNum:    w.number,
		api.KindFloat:  w.floating,
		api.KindText:   w.text,
		api.KindBytes:  w.bytes,
		api.KindArray:  w.array,
		api.KindMap:    w.members,
		api.KindTag:    w.tag,
		api.KindSimple: w.simple,
	}
	return w
}

// item writes the plain item of a tree that fits: the kinds of its nodes are all among those that have a part. No list has an end of its own, so that the parts of all nodes stand one behind the other.
func (w *writer) item(root api.Node) {
	for n := range through(root) {
		w.parts[n.Kind](n)
	}
}

func (w *writer) null(api.Node) {
	w.head(api.MajorOther, infoNull)
}

func (w *writer) truth(n api.Node) {
	if n.B {
		w.head(api.MajorOther, infoTrue)
		return
	}
	w.head(api.MajorOther, infoFalse)
}

func (w *writer) number(n api.Node) {
	// A decimal that fits is a number of that type: there is no false to be told.
	below, size, _ := dec.ToInt(n.D)
	if below {
		w.head(api.MajorMinus, size-1)
		return
	}
	w.head(api.MajorPlus, size)
}

// floating writes all bits of a width: the shortest head of a small number would be that of less.
func (w *writer) floating(n api.Node) {
	infos := map[int]byte{
		api.Width16: infoFloat16,
		api.Width32: infoFloat32,
		api.Width64: infoFloat64,
	}
	w.put(api.MajorOther<<5 | infos[n.W])
	w.bits(n.U, n.W)
}

func (w *writer) text(n api.Node) {
	w.head(api.MajorText, uint64(len(n.S)))
	w.WriteString(n.S)
}

func (w *writer) bytes(n api.Node) {
	w.head(api.MajorBytes, uint64(len(n.S)))
	w.WriteString(n.S)
}

// array writes what is ahead of a list; so do members and tag.
func (w *writer) array(n api.Node) {
	w.head(api.MajorArray, uint64(len(n.L)))
}

func (w *writer) members(n api.Node) {
	w.head(api.MajorMap, uint64(len(n.L)/2))
}

func (w *writer) tag(n api.Node) {
	w.head(api.MajorTag, n.U)
}

func (w *writer) simple(n api.Node) {
	w.head(api.MajorOther, n.U)
}

// through goes through the nodes of trees, each one ahead of those of its list.
func through(trees ...api.Node) iter.Seq[api.Node] {
	return func(yield func(api.Node) bool) {
	trees:
		for _, n := range trees {
			if !yield(n) {
				break trees
			}
			for inner := range through(n.L...) {
				if !yield(inner) {
					break trees
				}
			}
		}
	}
}
