package tree

import (
	"iter"

	"targum/api"
)

// through goes through nodes, and those of their lists, each behind the one whose list it is in and with its depth.
func through(nodes ...api.Node) iter.Seq2[int, api.Node] {
	return func(yield func(int, api.Node) bool) {
		descend(1, nodes, yield)
	}
}

// descend hands nodes on, from a depth on; false, if no more are wanted.
func descend(depth int, nodes []api.Node, yield func(int, api.Node) bool) bool {
	for _, n := range nodes {
		if !yield(depth, n) || !descend(depth+1, n.L, yield) {
			return false
		}
	}
	return true
}

// keys goes through those of a map's list; the last one may have nothing.
func keys(list []api.Node) iter.Seq[api.Node] {
	return func(yield func(api.Node) bool) {
		for i := 0; i < len(list); i += 2 {
			if !yield(list[i]) {
				return
			}
		}
	}
}
