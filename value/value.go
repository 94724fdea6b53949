// Package value: the values that programs reckon with. No value is ever written into, so that lists may share what is in them.
package value

import (
	"slices"
	"strconv"
	"strings"
)

// Value is a Number, a Text or a List; what is done with one goes by a type switch.
type Value interface{ isValue() }

type (
	// Number is a number.
	Number int64

	// Text is a text.
	Text string

	// List is a list of values; it is made by NewList. It knows its weight, so that to weigh a value does not mean to go through it.
	List struct {
		items  []Value
		inside int // what its values weigh
	}
)

func (Number) isValue() {}
func (Text) isValue()   {}
func (List) isValue()   {}

// NewList makes a list that keeps the items: the caller writes into them no more.
func NewList(items []Value) List {
	inside := 0
	for _, item := range items {
		inside += Weigh(item)
	}
	return List{items: items, inside: inside}
}

// Items gives what is in a list, not to be written into.
func (l List) Items() []Value { return slices.Clip(l.items) }

// Weigh tells what a value weighs.
func Weigh(v Value) int {
	switch v := v.(type) {
	case Text:
		return 1 + len(v)
	case List:
		return 1 + v.inside
	}
	return 1
}

// Same tells whether two values are the same one.
func Same(first, second Value) bool {
	switch first := first.(type) {
	case Number:
		second, ok := second.(Number)
		return ok && first == second
	case Text:
		second, ok := second.(Text)
		return ok && first == second
	case List:
		second, ok := second.(List)
		return ok && slices.EqualFunc(first.items, second.items, Same)
	}
	return false
}

// Write tells a value as it is written.
func Write(v Value) string {
	var b strings.Builder
	write(&b, v)
	return b.String()
}

func write(b *strings.Builder, v Value) {
	switch v := v.(type) {
	case Number:
		b.WriteString(strconv.FormatInt(int64(v), 10))
	case Text:
		b.WriteString("'" + string(v) + "'")
	case List:
		b.WriteString("(")
		for i, item := range v.items {
			if i > 0 {
				b.WriteString(" ")
			}
			write(b, item)
		}
		b.WriteString(")")
	}
}
