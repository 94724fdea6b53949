package show

import (
	"slices"

	"stagehand/api"
	"stagehand/char"
	"stagehand/fault"
	"stagehand/node"
	"stagehand/value"
)

// headed gives the text at the head of a list, and what stands behind it.
func headed(items []value.Value) (string, []value.Value, error) {
	if len(items) == 0 {
		return "", nil, fault.Node
	}
	head, ok := items[0].(value.Text)
	if !ok {
		return "", nil, fault.Node
	}
	return string(head), items[1:], nil
}

// elementOf gives an element without its nodes, and the values of the list of those.
func elementOf(items []value.Value) (node.Element, []value.Value, error) {
	tag, rest, err := headed(items)
	if err != nil || len(rest) != 2 || !isWord(tag) {
		return node.Element{}, nil, fault.Node
	}
	attributes, isList := rest[0].(value.List)
	inside, both := rest[1].(value.List)
	if !isList || !both {
		return node.Element{}, nil, fault.Node
	}
	made := node.Element{Tag: tag}
	for i, attribute := range attributes.Items() {
		if err := addAttribute(&made, attribute); err != nil {
			return node.Element{}, nil, fault.In{What: "attribute", Index: i, Cause: err}
		}
	}
	return made, inside.Items(), nil
}

// isWord: what tags, events and the names of attributes are.
func isWord(text string) bool {
	return 1 <= len(text) && len(text) <= api.MaxName && char.Are(text, char.IsLetter)
}

func addAttribute(e *node.Element, v value.Value) error {
	list, ok := v.(value.List)
	if !ok {
		return fault.Attribute
	}
	name, rest, err := headed(list.Items())
	if err != nil {
		return fault.Attribute
	}
	if name == "on" {
		handler, err := handlerOf(rest)
		e.Handlers = append(e.Handlers, handler)
		return err
	}
	attribute, err := attributeOf(name, rest)
	e.Attributes = append(e.Attributes, attribute)
	return err
}

func attributeOf(name string, rest []value.Value) (node.Attribute, error) {
	if !isWord(name) || len(rest) != 1 {
		return node.Attribute{}, fault.Attribute
	}
	text, ok := rest[0].(value.Text)
	if !ok {
		return node.Attribute{}, fault.Attribute
	}
	return node.Attribute{Name: name, Text: string(text)}, nil
}

func handlerOf(items []value.Value) (node.Handler, error) {
	event, rest, err := headed(items)
	if err != nil || !isWord(event) || len(rest) < 1 || len(rest) > 2 {
		return node.Handler{}, fault.Attribute
	}
	made := node.Handler{Event: event, Message: rest[0]}
	if len(rest) == 2 {
		stops, ok := rest[1].(value.Number)
		if !ok {
			return node.Handler{}, fault.Attribute
		}
		made.Stops = stops != 0
	}
	return made, nil
}

// unpaired gives the keys of pairs, and beside each the value of its node.
func unpaired(pairs []value.Value) ([]string, []value.Value, error) {
	var keys []string
	var values []value.Value
	for i, pair := range pairs {
		key, v, err := keyAndValue(pair)
		if err == nil && slices.Contains(keys, key) {
			err = fault.Key
		}
		if err != nil {
			return nil, nil, fault.In{What: "pair", Index: i, Cause: err}
		}
		keys = append(keys, key)
		values = append(values, v)
	}
	return keys, values, nil
}

func keyAndValue(pair value.Value) (string, value.Value, error) {
	list, ok := pair.(value.List)
	if !ok {
		return "", nil, fault.Pair
	}
	key, rest, err := headed(list.Items())
	if err != nil || len(rest) != 1 {
		return "", nil, fault.Pair
	}
	return key, rest[0], nil
}
