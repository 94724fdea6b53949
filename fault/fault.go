// Package fault: why something could not be reckoned, and where. In each of its errors errors.Is finds api.ErrFault.
package fault

import (
	"errors"
	"strconv"

	"stagehand/api"
)

// Why is the reason of a fault.
type Why string

const (
	Kind      Why = "a value is not of the kind that is asked for"
	Place     Why = "there is no such place in a list"
	Weight    Why = "a value weighs too much"
	Steps     Why = "there are too many steps"
	Written   Why = "this is not a value as it is written"
	Name      Why = "there is no such name"
	Function  Why = "there is no such function with as many parameters"
	Node      Why = "this is not a node"
	Attribute Why = "this is not an attribute"
	Pair      Why = "this is not a pair of a key and a node"
	Key       Why = "a key is there already"
	Nodes     Why = "there are too many nodes"
	Scribble  Why = "this cannot be written on a node"
)

func (w Why) Error() string { return "stagehand: " + string(w) }

// Unwrap: what every fault is.
func (w Why) Unwrap() error { return api.ErrFault }

// At tells at which byte, of a program or of a value as it is written, a fault is.
type At struct {
	Byte  int
	Cause error
}

func (a At) Error() string { return "stagehand: byte " + strconv.Itoa(a.Byte) + ": " + a.Cause.Error() }

// Unwrap: what is the fault there.
func (a At) Unwrap() error { return a.Cause }

// Placed wraps a fault with its byte, unless it has one: the innermost tells most.
func Placed(place int, cause error) error {
	var at At
	if errors.As(cause, &at) {
		return cause
	}
	return At{Byte: place, Cause: cause}
}

// In tells which one of several, from 0 on, a fault is in: an argument of a call, a node of an element.
type In struct {
	What  string
	Index int
	Cause error
}

func (i In) Error() string {
	return "stagehand: " + i.What + " " + strconv.Itoa(i.Index) + ": " + i.Cause.Error()
}

// Unwrap: what is the fault in it.
func (i In) Unwrap() error { return i.Cause }
