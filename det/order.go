package det

import (
	"iter"
	"slices"
	"strings"

	"targum/api"
	"targum/cborw"
)

// key is a node as a key, with its plain item.
type key struct {
	node api.Node
	item string
}

// keyOf answers the key that a node is, if it is one.
func keyOf(n api.Node) (key, api.Errno) {
	item, e := cborw.Key(n)
	if e != api.OK {
		return key{}, e
	}
	return key{n, item}, api.OK
}

// pair is a key of a map, and what it has.
type pair struct {
	key
	value api.Node
}

// compare answers a number below 0, if a pair stands ahead of another one.
func (p pair) compare(q pair) int {
	return strings.Compare(p.item, q.item)
}

// pairsOf answers the pairs of a map that fits.
func pairsOf(members []api.Node) []pair {
	var pairs []pair
	for node, value := range inTwos(members...) {
		// Its keys are such as FormC may have: there is no error to be told.
		k, _ := keyOf(node)
		pairs = append(pairs, pair{k, value})
	}
	return pairs
}

// putInOrder puts the pairs of a map in order, in their own list.
func putInOrder(members []api.Node) {
	pairs := pairsOf(members)
	slices.SortFunc(pairs, pair.compare)
	for i, p := range pairs {
		copy(members[2*i:], []api.Node{p.node, p.value})
	}
}

// isInOrder tells whether the pairs of each map of a tree that fits are in order.
func isInOrder(root api.Node) bool {
	inOrder := true
nodes:
	for n := range through(root) {
		if n.Kind == api.KindMap && !slices.IsSortedFunc(pairsOf(n.L), pair.compare) {
			inOrder = false
			break nodes
		}
	}
	return inOrder
}

// through goes through the nodes of trees, each one ahead of those of its list.
func through(trees ...api.Node) iter.Seq[api.Node] {
	return func(yield func(api.Node) bool) {
	trees:
		for _, n := range trees {
			if !yield(n) {
				break trees
			}
			for inner := range through(n.L...) {
				if !yield(inner) {
					break trees
				}
			}
		}
	}
}

// inTwos goes through a list two by two.
func inTwos[T any](list ...T) iter.Seq2[T, T] {
	return func(yield func(T, T) bool) {
		for i := 1; i < len(list); i += 2 {
			if !yield(list[i-1], list[i]) {
				return
			}
		}
	}
}
