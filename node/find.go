package node

import (
	"strconv"

	"stagehand/api"
)

// NoNode tells at which step of a path, from 0 on, there is nothing more.
type NoNode struct{ Step int }

func (n NoNode) Error() string {
	return "stagehand: step " + strconv.Itoa(n.Step) + ": " + api.ErrPath.Error()
}

// Unwrap: what is wrong with every such path.
func (n NoNode) Unwrap() error { return api.ErrPath }

// Find gives the node of the tree at a path, or a NoNode.
func Find(top Node, path []int) (Shown, error) {
	found := Bare(top)
	if found == nil {
		return nil, NoNode{Step: 0}
	}
	for step, i := range path {
		inside := Inside(found)
		if i < 0 || i >= len(inside) {
			return nil, NoNode{Step: step}
		}
		found = Bare(inside[i])
	}
	return found, nil
}
