package det

import (
	"targum/api"
	"targum/float"
)

// settled answers a tree that fits FormC, settled; it shares no list with the one handed in.
func settled(n api.Node) api.Node {
	n.L = copied(n.L)
	for i, inner := range n.L {
		n.L[i] = settled(inner)
	}
	switch n.Kind {
	case api.KindFloat:
		n.U, n.W = narrowed(n.U, n.W)
	case api.KindMap:
		putInOrder(n.L)
	}
	return n
}

// narrowed answers bits of a width as those of their least width, and this.
func narrowed(bits uint64, width int) (uint64, int) {
	// The bits of a right node can be widened, and narrowed to their least width: there is nothing wrong to be told.
	wide, _ := float.Widen(bits, width)
	least := float.Least(wide)
	narrow, _ := float.Narrow(wide, least)
	return narrow, least
}

// copied answers a list of the same, in new memory.
func copied[T any](list []T) []T {
	if len(list) == 0 {
		return nil
	}
	again := make([]T, len(list))
	copy(again, list)
	return again
}
