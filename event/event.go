// Package event: from something that happens at a node to the messages that it makes.
package event

import (
	"stagehand/fault"
	"stagehand/node"
	"stagehand/program"
	"stagehand/reckon"
	"stagehand/value"
)

// Asked is a handler whose message is asked for, and the functions that tag it, the innermost first.
type Asked struct {
	Handler node.Handler
	Tags    []string
}

// Ask gives the handlers of an event that happens at the last node of a way from the topmost one: those of this node, then those of the one around it, and so on up to a node of which one stops.
func Ask(way []node.Found, event string) []Asked {
	var all []Asked
	for i := len(way) - 1; i >= 0; i-- {
		asked, stops := askOne(way[i], event)
		all = append(all, asked...)
		if stops {
			break
		}
	}
	return all
}

// askOne also tells whether one of them stops: that holds back none of the same node, wherever it stands.
func askOne(found node.Found, event string) ([]Asked, bool) {
	var asked []Asked
	stops := false
	for _, handler := range node.HandlersOf(found.Node) {
		if handler.Event == event {
			asked = append(asked, Asked{Handler: handler, Tags: found.Tags})
			stops = stops || handler.Stops
		}
	}
	return asked, stops
}

// Message gives the message of a handler, put through the functions that tag it, or the first fault of these, with its tag, from the innermost on.
func (a Asked) Message(p program.Program) (value.Value, error) {
	message := a.Handler.Message
	for i, function := range a.Tags {
		given, err := reckon.Named(p, function, message)
		if err != nil {
			return nil, fault.In{What: "tag", Index: i, Cause: err}
		}
		message = given
	}
	return message, nil
}
