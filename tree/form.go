package tree

import (
	"errors"

	"targum/api"
	"targum/dec"
	"targum/float"
)

// errForm is told of a tree that does not fit a form.
var errForm = errors.New("tree: does not fit the form")

// kindSet has a binary digit for each kind.
type kindSet uint

// setOf answers the set of kinds.
func setOf(kinds ...int) kindSet {
	var set kindSet
	for _, kind := range kinds {
		set |= 1 << kind
	}
	return set
}

// has tells whether a right node's kind is in a set.
func (s kindSet) has(kind int) bool {
	return s>>kind&1 != 0
}

// form is what a form allows: kinds of nodes and of keys, and, where its decimals are whole, how far below 0 they may be; how narrow a float may be, and whether it must be as narrow as it can.
type form struct {
	kinds  kindSet
	keys   kindSet
	whole  bool
	below  uint64
	width  int
	narrow bool
}

// formOf answers the form of a number; of what is no form's one that allows nothing.
func formOf(number int) form {
	common := setOf(api.KindNull, api.KindBool, api.KindNum, api.KindText, api.KindArray, api.KindMap)
	binary := common | setOf(api.KindFloat, api.KindBytes)
	binaryKeys := setOf(api.KindText, api.KindBytes, api.KindBool, api.KindNull, api.KindNum)
	cbor := form{kinds: binary | setOf(api.KindTag, api.KindSimple), keys: binaryKeys, whole: true, below: 1<<64 - 1, width: api.Width16}
	switch number {
	case api.FormJ:
		return form{kinds: common, keys: setOf(api.KindText)}
	case api.FormC:
		return cbor
	case api.FormD:
		cbor.narrow = true
		return cbor
	case api.FormM:
		return form{kinds: binary | setOf(api.KindExt), keys: binaryKeys, whole: true, below: 1 << 63, width: api.Width32}
	}
	return form{}
}

// checker asks nodes whether they fit its form.
type checker struct{ form }

// fittingTree answers errForm, unless a right tree fits the form of a number.
func fittingTree(n api.Node, number int) error {
	c := checker{formOf(number)}
	var err error
nodes:
	for _, n := range through(n) {
		if !c.fits(n) {
			err = errForm
			break nodes
		}
	}
	return err
}

// fits tells whether a right node fits, those of its list aside.
func (c checker) fits(n api.Node) bool {
	if !c.kinds.has(n.Kind) {
		return false
	}
	switch n.Kind {
	case api.KindNum:
		return c.fitsNum(n.D)
	case api.KindFloat:
		return c.fitsFloat(n.U, n.W)
	case api.KindMap:
		return c.fitsMap(n.L)
	}
	return true
}

func (c checker) fitsNum(d api.Dec) bool {
	if !c.whole {
		return true
	}
	neg, size, ok := dec.ToInt(d)
	return ok && (!neg || size <= c.below)
}

func (c checker) fitsFloat(bits uint64, width int) bool {
	if !c.narrow {
		return width >= c.width
	}
	// The bits of a right node can be widened: there is no error to be told.
	wide, _ := float.Widen(bits, width)
	return float.Least(wide) == width
}

// fitsMap asks the keys for their kinds alone: as nodes of the tree they are asked for all else.
func (c checker) fitsMap(list []api.Node) bool {
	for key := range keys(list) {
		if !c.keys.has(key.Kind) {
			return false
		}
	}
	return true
}
