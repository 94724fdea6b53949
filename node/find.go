package node

import (
	"slices"
	"strconv"

	"stagehand/api"
)

// NoNode tells at which step of a path, from 0 on, there is nothing more.
type NoNode struct{ Step int }

func (n NoNode) Error() string {
	return "stagehand: step " + strconv.Itoa(n.Step) + ": " + api.ErrPath.Error()
}

// Unwrap: what is wrong with every such path.
func (n NoNode) Unwrap() error { return api.ErrPath }

// Found is a node of the tree, and the functions that tag it, the innermost first.
type Found struct {
	Node Shown
	Tags []string
}

// Find gives the node of the tree at a path, or a NoNode.
func Find(top Node, path []int) (Shown, error) {
	way, err := Way(top, path)
	if err != nil {
		return nil, err
	}
	return way[len(way)-1].Node, nil
}

// Way gives the nodes of the tree from the topmost one to that at a path, or a NoNode.
func Way(top Node, path []int) ([]Found, error) {
	if top == nil {
		return nil, NoNode{Step: 0}
	}
	last := Found{Node: Bare(top), Tags: tagsWithin(top)}
	way := []Found{last}
	for step, i := range path {
		inside := Inside(last.Node)
		if i < 0 || i >= len(inside) {
			return nil, NoNode{Step: step}
		}
		last = Found{Node: Bare(inside[i]), Tags: slices.Concat(tagsWithin(inside[i]), last.Tags)}
		way = append(way, last)
	}
	return way, nil
}

// tagsWithin gives the functions that tag the bare node of n, the innermost first, but none from around n.
func tagsWithin(n Node) []string {
	switch n := n.(type) {
	case *Tagged:
		return append(tagsWithin(n.Inner), n.Function)
	case *Lazy:
		return tagsWithin(n.Inner)
	}
	return nil
}

// HandlersOf gives the handlers of a node itself, in their order.
func HandlersOf(n Node) []Handler {
	switch n := n.(type) {
	case *Element:
		return n.Handlers
	case *Keyed:
		return n.Handlers
	}
	return nil
}
