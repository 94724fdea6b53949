package value

import (
	"strconv"
	"strings"

	"stagehand/api"
	"stagehand/char"
	"stagehand/fault"
)

// reader takes the bytes of a written value one after the other. It counts what the values weigh as it meets them, so that it ends soon at a text of any length.
type reader struct {
	text   string
	place  int
	weight int
}

// Read gives the value that a text is, as it is written, or a fault with its place if it is none, or one above MaxWeight.
func Read(text string) (Value, error) {
	r := &reader{text: text}
	read, err := r.value()
	if err == nil && r.place != len(text) {
		err = fault.Written
	}
	if err != nil {
		return nil, fault.At{Byte: r.place, Cause: err}
	}
	return read, nil
}

func (r *reader) value() (Value, error) {
	if err := r.weigh(1); err != nil {
		return nil, err
	}
	switch {
	case r.take("("):
		return r.list()
	case r.take("'"):
		return r.quoted()
	}
	return r.number()
}

func (r *reader) list() (Value, error) {
	var items []Value
	for !r.take(")") {
		if len(items) > 0 && !r.take(" ") {
			return nil, fault.Written
		}
		item, err := r.value()
		if err != nil {
			return nil, err
		}
		items = append(items, item)
	}
	return NewList(items), nil
}

func (r *reader) quoted() (Value, error) {
	inside := r.run(char.IsQuotable)
	if err := r.weigh(len(inside)); err != nil {
		return nil, err
	}
	if !r.take("'") {
		return nil, fault.Written
	}
	return Text(strings.Clone(inside)), nil // so that nothing of what was handed in is kept
}

// number takes none but the one way in which a number is written: without noughts ahead, and no `-0`.
func (r *reader) number() (Value, error) {
	first := r.place
	r.take("-")
	r.run(char.IsDigit)
	written := r.text[first:r.place]
	number, err := strconv.ParseInt(written, 10, 64)
	if err != nil || strconv.FormatInt(number, 10) != written {
		r.place = first
		return nil, fault.Written
	}
	return Number(number), nil
}

func (r *reader) weigh(more int) error {
	r.weight += more
	if r.weight > api.MaxWeight {
		return fault.Weight
	}
	return nil
}

func (r *reader) take(want string) bool {
	if !strings.HasPrefix(r.text[r.place:], want) {
		return false
	}
	r.place += len(want)
	return true
}

func (r *reader) run(is func(byte) bool) string {
	taken := r.text[r.place:][:char.Run(r.text[r.place:], is)]
	r.place += len(taken)
	return taken
}
