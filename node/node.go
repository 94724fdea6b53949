// Package node: the nodes that are shown, and what stays of them from frame to frame.
package node

import (
	"slices"

	"stagehand/value"
)

// Node is a *Text, an *Element, a *Keyed, a *Tagged or a *Lazy; what is done with one goes by a type switch.
type Node interface{ isNode() }

// Shown is a node of the tree: a *Text, an *Element or a *Keyed.
type Shown interface {
	Node
	Marked() *Mark
}

// Mark is what a node of the tree keeps as long as it stays the same node.
type Mark struct {
	Number    int
	IsWritten bool // whether something is written on it: it may be the empty text
	Written   string
}

// Marked gives the mark itself, to be changed.
func (m *Mark) Marked() *Mark { return m }

// Attribute is a name and its text.
type Attribute struct{ Name, Text string }

// Handler tells which message an event makes.
type Handler struct {
	Event   string
	Message value.Value
	Stops   bool
}

type (
	// Text is a text node.
	Text struct {
		Mark
		Text string
	}

	// Element is an element; of its attributes the handlers stand apart.
	Element struct {
		Mark
		Tag        string
		Attributes []Attribute
		Handlers   []Handler
		Nodes      []Node
	}

	// Keyed is a keyed element, with a key for each of its nodes.
	Keyed struct {
		Element
		Keys []string
	}

	// Tagged is no node of the tree: the one within it is, and the function tags all that is within.
	Tagged struct {
		Function string
		Inner    Node
	}

	// Lazy is no node of the tree: the one that the function gave is.
	Lazy struct {
		Function  string
		Arguments []value.Value
		Inner     Node
	}
)

func (*Text) isNode()    {}
func (*Element) isNode() {} // and so is a *Keyed one
func (*Tagged) isNode()  {}
func (*Lazy) isNode()    {}

// Inside gives the nodes that stand in a node itself.
func Inside(n Node) []Node {
	switch n := n.(type) {
	case *Element:
		return n.Nodes
	case *Keyed:
		return n.Nodes
	case *Tagged:
		return []Node{n.Inner}
	case *Lazy:
		return []Node{n.Inner}
	}
	return nil
}

// Size tells how many nodes there are, with all within, tagged and lazy ones too.
func Size(n Node) int {
	size := 1
	for _, inner := range Inside(n) {
		size += Size(inner)
	}
	return size
}

// Bare gives the node of the tree: that within however many tagged and lazy ones; nil, if there is none.
func Bare(n Node) Shown {
	for {
		switch outer := n.(type) {
		case *Tagged:
			n = outer.Inner
		case *Lazy:
			n = outer.Inner
		case Shown:
			return outer
		default:
			return nil
		}
	}
}

// Alike tells whether two nodes are of one kind, and of one tag if they have any.
func Alike(first, second Node) bool {
	switch first := first.(type) {
	case *Text:
		_, ok := second.(*Text)
		return ok
	case *Element:
		second, ok := second.(*Element)
		return ok && first.Tag == second.Tag
	case *Keyed:
		second, ok := second.(*Keyed)
		return ok && first.Tag == second.Tag
	case *Tagged:
		_, ok := second.(*Tagged)
		return ok
	case *Lazy:
		_, ok := second.(*Lazy)
		return ok
	}
	return false
}

// Opposite gives the node that stands in last at the place of the i-th node in made; nil, if there is none.
func Opposite(made, last Node, i int) Node {
	if !Alike(made, last) {
		return nil
	}
	if made, ok := made.(*Keyed); ok {
		i = slices.Index(keysOf(last), made.Keys[i])
	}
	inside := Inside(last)
	if i < 0 || i >= len(inside) {
		return nil
	}
	return inside[i]
}

func keysOf(n Node) []string {
	if n, ok := n.(*Keyed); ok {
		return n.Keys
	}
	return nil
}

// IsOf tells whether a lazy node is of this function with these values.
func (l *Lazy) IsOf(function string, arguments []value.Value) bool {
	return l.Function == function && slices.EqualFunc(l.Arguments, arguments, value.Same)
}
