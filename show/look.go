// Package show: from the value that a program shows to its nodes.
package show

import (
	"stagehand/api"
	"stagehand/fault"
	"stagehand/node"
	"stagehand/program"
	"stagehand/reckon"
	"stagehand/value"
)

// looker looks at the nodes of a value in their order, each one ahead of those in it, up to the first fault. Each is looked at beside the node, if there is one, that stood at its place of what was shown last.
type looker struct {
	program program.Program
	nodes   int // that were looked at
	lazies  int // that were reckoned
}

// Look gives the nodes of a value, of which those that are lazy and stay what they were are those of the last, and tells how many lazy nodes were reckoned, also with a fault. The last ones are not written into.
func Look(p program.Program, v value.Value, last node.Node) (node.Node, int, error) {
	l := &looker{program: p}
	top, err := l.look(v, last)
	return top, l.lazies, err
}

func (l *looker) look(v value.Value, last node.Node) (node.Node, error) {
	if err := l.count(1); err != nil {
		return nil, err
	}
	switch v := v.(type) {
	case value.Number:
		return &node.Text{Text: value.Write(v)}, nil
	case value.Text:
		return &node.Text{Text: string(v)}, nil
	case value.List:
		return l.lookList(v.Items(), last)
	}
	return nil, fault.Node
}

func (l *looker) count(more int) error {
	l.nodes += more
	if l.nodes > api.MaxNodes {
		return fault.Nodes
	}
	return nil
}

func (l *looker) lookList(items []value.Value, last node.Node) (node.Node, error) {
	kind, rest, err := headed(items)
	if err != nil {
		return nil, err
	}
	switch kind {
	case "el":
		return l.element(rest, last)
	case "keyed":
		return l.keyed(rest, last)
	case "tag":
		return l.tagged(rest, last)
	case "lazy":
		return l.lazy(rest, last)
	}
	return nil, fault.Node
}

func (l *looker) element(items []value.Value, last node.Node) (node.Node, error) {
	made, inside, err := elementOf(items)
	if err != nil {
		return nil, err
	}
	made.Nodes, err = l.each(inside, &made, last)
	if err != nil {
		return nil, err
	}
	return &made, nil
}

func (l *looker) keyed(items []value.Value, last node.Node) (node.Node, error) {
	element, pairs, err := elementOf(items)
	if err != nil {
		return nil, err
	}
	keys, inside, err := unpaired(pairs)
	if err != nil {
		return nil, err
	}
	made := &node.Keyed{Element: element, Keys: keys}
	made.Nodes, err = l.each(inside, made, last)
	if err != nil {
		return nil, err
	}
	return made, nil
}

func (l *looker) each(values []value.Value, in, last node.Node) ([]node.Node, error) {
	var nodes []node.Node
	for i, v := range values {
		next, err := l.look(v, node.Opposite(in, last, i))
		if err != nil {
			return nil, fault.In{What: "node", Index: i, Cause: err}
		}
		nodes = append(nodes, next)
	}
	return nodes, nil
}

func (l *looker) tagged(items []value.Value, last node.Node) (node.Node, error) {
	name, rest, err := headed(items)
	if err != nil || len(rest) != 1 {
		return nil, fault.Node
	}
	if _, there := l.program.Find(name, 1); !there {
		return nil, fault.Function
	}
	made := &node.Tagged{Function: name}
	made.Inner, err = l.look(rest[0], node.Opposite(made, last, 0))
	if err != nil {
		return nil, err
	}
	return made, nil
}

func (l *looker) lazy(items []value.Value, last node.Node) (node.Node, error) {
	name, arguments, err := headed(items)
	if err != nil {
		return nil, err
	}
	if _, there := l.program.Find(name, len(arguments)); !there {
		return nil, fault.Function
	}
	if stood, ok := last.(*node.Lazy); ok && stood.IsOf(name, arguments) {
		return l.again(stood)
	}
	return l.anew(&node.Lazy{Function: name, Arguments: arguments}, last)
}

// again is for a lazy node that is what it was; those in it are not looked at, but count.
func (l *looker) again(stood *node.Lazy) (node.Node, error) {
	if err := l.count(node.Size(stood) - 1); err != nil {
		return nil, err
	}
	return stood, nil
}

func (l *looker) anew(made *node.Lazy, last node.Node) (node.Node, error) {
	l.lazies++
	given, err := reckon.Named(l.program, made.Function, made.Arguments...)
	if err != nil {
		return nil, err
	}
	made.Inner, err = l.look(given, node.Opposite(made, last, 0))
	if err != nil {
		return nil, err
	}
	return made, nil
}
