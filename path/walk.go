package path

import (
	"iter"

	"targum/api"
	"targum/tree"
)

// stepsOf goes through the steps that a node has, each with the place in its list of what it leads to. A key that stands there again comes again: the first one leads.
func stepsOf(n api.Node) iter.Seq2[api.Step, int] {
	return func(yield func(api.Step, int) bool) {
		switch n.Kind {
		case api.KindArray:
			for place := range n.L {
				if !yield(placeStep(place), place) {
					return
				}
			}
		case api.KindMap:
			for place := 1; place < len(n.L); place += 2 {
				key := n.L[place-1]
				if key.Kind == api.KindText && !yield(keyStep(key.S), place) {
					return
				}
			}
		}
	}
}

// placesOf answers the places, each in the list of the node ahead, of the nodes that a path goes through; false, if it leads to none.
func placesOf(n api.Node, p []api.Step) ([]int, bool) {
	if !Right(p) {
		return nil, false
	}
	var places []int
steps:
	for _, wanted := range p {
		for step, place := range stepsOf(n) {
			if step == wanted {
				n = n.L[place]
				places = append(places, place)
				continue steps
			}
		}
		return nil, false
	}
	return places, true
}

// changed answers a tree of which something was done at the node that a path leads to, which stands at a place of its parent's list.
func changed(n api.Node, p []api.Step, do func(parent *api.Node, place int)) (api.Node, api.Errno) {
	places, ok := placesOf(n, p)
	if !ok {
		return api.Node{}, api.ErrPath
	}
	// The root has a parent for as long as this takes, so that it can be replaced like all others.
	above := api.Node{L: []api.Node{tree.Clone(n)}}
	parent, place := &above, 0
	for _, next := range places {
		parent, place = &parent.L[place], next
	}
	do(parent, place)
	return above.L[0], api.OK
}

// without answers a list without the nodes from a first place to a last one.
func without(list []api.Node, first int, last int) []api.Node {
	kept := make([]api.Node, len(list)-(last+1-first))
	copy(kept, list[:first])
	copy(kept[first:], list[last+1:])
	return kept
}

// withPaths answers paths, and behind them that to a node, and those that go on with it.
func withPaths(paths [][]api.Step, n api.Node, toNode ...api.Step) [][]api.Step {
	paths = append(paths, toNode)
	if len(toNode) == api.MaxPath {
		return paths
	}
	gone := map[api.Step]struct{}{}
	for step, place := range stepsOf(n) {
		if _, again := gone[step]; again || isWrong(step) {
			continue
		}
		gone[step] = struct{}{}
		// No room is left behind the steps, so that each path is copied into memory of its own.
		paths = withPaths(paths, n.L[place], append(toNode[:len(toNode):len(toNode)], step)...)
	}
	return paths
}
