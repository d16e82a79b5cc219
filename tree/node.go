package tree

import (
	"errors"
	"slices"

	"targum/api"
	"targum/dec"
	"targum/float"
	"targum/utf"
)

// errTree is told of what is no right tree.
var errTree = errors.New("tree: no right tree")

// rightTree answers errTree, unless a node is the root of a right tree.
func rightTree(n api.Node) error {
	// The limits come first: the keys of a map are held each against each, which takes long of many.
	if !isWithinLimits(n) {
		return errTree
	}
	right := rightKinds()
	var err error
nodes:
	for _, n := range through(n) {
		isRight, known := right[n.Kind]
		if !known || !isRight(node{n}) {
			err = errTree
			break nodes
		}
	}
	return err
}

// isWithinLimits tells whether a tree has few enough nodes, none of them too deep.
func isWithinLimits(n api.Node) bool {
	count := 0
	for depth := range through(n) {
		count++
		if depth > api.MaxDepth || count > api.MaxNodes {
			return false
		}
	}
	return true
}

// rightKinds answers, for each kind, what tells whether a node of it is right, those of its list aside.
func rightKinds() map[int]func(node) bool {
	return map[int]func(node) bool{
		api.KindNull:   node.isNull,
		api.KindBool:   node.isBool,
		api.KindNum:    node.isNum,
		api.KindFloat:  node.isFloat,
		api.KindText:   node.isText,
		api.KindBytes:  node.isBytes,
		api.KindArray:  node.isArray,
		api.KindMap:    node.isMap,
		api.KindTag:    node.isTag,
		api.KindSimple: node.isSimple,
		api.KindExt:    node.isExt,
	}
}

// node is one that is asked whether it is right.
type node struct{ api.Node }

// isJust tells whether a node has just what another one has, as many nodes in its list too.
func (n node) isJust(m api.Node) bool {
	return n.Kind == m.Kind && n.B == m.B && n.D == m.D && n.U == m.U && n.W == m.W && n.S == m.S && len(n.L) == len(m.L)
}

func (n node) isNull() bool {
	return n.isJust(api.Node{Kind: n.Kind})
}

func (n node) isBool() bool {
	return n.isJust(api.Node{Kind: n.Kind, B: n.B})
}

func (n node) isNum() bool {
	return n.isJust(api.Node{Kind: n.Kind, D: n.D}) && dec.Right(n.D)
}

func (n node) isFloat() bool {
	_, e := float.Widen(n.U, n.W)
	return e == api.OK && n.isJust(api.Node{Kind: n.Kind, W: n.W, U: n.U})
}

func (n node) isText() bool {
	return n.isBytes() && utf.Right(n.S)
}

func (n node) isBytes() bool {
	return n.isJust(api.Node{Kind: n.Kind, S: n.S}) && len(n.S) <= api.MaxText
}

func (n node) isArray() bool {
	return n.isJust(api.Node{Kind: n.Kind, L: n.L})
}

func (n node) isMap() bool {
	return n.isArray() && len(n.L)%2 == 0 && areDistinct(slices.Collect(keys(n.L))...)
}

func (n node) isTag() bool {
	return n.isJust(api.Node{Kind: n.Kind, U: n.U, L: n.L}) && len(n.L) == 1
}

func (n node) isSimple() bool {
	return n.isJust(api.Node{Kind: n.Kind, U: n.U}) && isSimpleNumber(n.U)
}

func (n node) isExt() bool {
	return n.isJust(api.Node{Kind: n.Kind, U: n.U, S: n.S}) && n.U <= api.MaxType && len(n.S) <= api.MaxText
}

// The numbers of simple ones that stand for other kinds, or for none: all from 20 to 31 but one.
const (
	firstTaken = 20
	undefined  = 23
	lastTaken  = 31
)

// isSimpleNumber tells whether a number is that of a simple node.
func isSimpleNumber(u uint64) bool {
	return u < firstTaken || u == undefined || u > lastTaken && u <= api.MaxSimple
}

// areDistinct tells whether no two nodes are the same.
func areDistinct(nodes ...api.Node) bool {
	for i, a := range nodes {
		for _, b := range nodes[:i] {
			if Same(a, b) {
				return false
			}
		}
	}
	return true
}
