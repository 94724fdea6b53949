package event

import (
	"errors"
	"strings"
	"testing"

	"stagehand/api"
	"stagehand/fault"
	"stagehand/node"
	"stagehand/program"
	"stagehand/value"
)

const functions = "(fun init () 0) (fun update (m n) n) (fun view (n) n) (fun wa (m) (list 'a' m)) (fun wb (m) (list 'b' m)) (fun inc (m) (add 1 m))"

func read(t *testing.T) program.Program {
	t.Helper()
	p, err := program.Read(functions)
	if err != nil {
		t.Fatal(err)
	}
	return p
}

func on(event, message string, stops bool) node.Handler {
	return node.Handler{Event: event, Message: value.Text(message), Stops: stops}
}

func found(tags string, handlers ...node.Handler) node.Found {
	return node.Found{Node: &node.Element{Tag: "p", Handlers: handlers}, Tags: strings.Fields(tags)}
}

func TestAsk(t *testing.T) {
	way := []node.Found{
		found("wa", on("go", "1", false), on("tap", "2", false)),
		found("wb wa", on("go", "3", true), on("tap", "4", false), on("go", "5", false)),
		{Node: &node.Keyed{Element: node.Element{Handlers: []node.Handler{on("go", "6", false), on("tap", "7", false)}}}},
		{Node: &node.Text{Text: "x"}},
	}
	for _, one := range []struct {
		length int
		event  string
		want   string // the messages, and the tags of each
	}{
		{4, "go", "6: 3:wb wa 5:wb wa"}, {3, "go", "6: 3:wb wa 5:wb wa"}, {2, "go", "3:wb wa 5:wb wa"}, {1, "go", "1:wa"},
		{4, "tap", "7: 4:wb wa 2:wa"}, {2, "tap", "4:wb wa 2:wa"}, {1, "tap", "2:wa"}, {4, "none", ""}, {4, "", ""}, {0, "go", ""},
	} {
		var got []string
		for _, asked := range Ask(way[:one.length], one.event) {
			got = append(got, string(asked.Handler.Message.(value.Text))+":"+strings.Join(asked.Tags, " "))
		}
		if told := strings.Join(got, " "); told != one.want {
			t.Errorf("P12: %s at %d: %q, want %q", one.event, one.length, told, one.want)
		}
	}
}

func TestMessage(t *testing.T) {
	p := read(t)
	for tags, want := range map[string]string{"": "5", "wa": "('a' 5)", "wb wa": "('a' ('b' 5))", "inc inc wa": "('a' 7)"} {
		asked := Asked{Handler: node.Handler{Message: value.Number(5)}, Tags: strings.Fields(tags)}
		if got, err := asked.Message(p); err != nil || value.Write(got) != want {
			t.Errorf("P12: through %q: %v, %v, want %s", tags, got, err, want)
		}
	}
}

// TestFaultsHaveTheirPlaces: which tag it is, from the innermost on, and the byte in its function.
func TestFaultsHaveTheirPlaces(t *testing.T) {
	p := read(t)
	for tags, index := range map[string]int{"wa inc": 1, "inc wa inc inc": 2, "inc inc wb inc wa": 3} {
		asked := Asked{Handler: node.Handler{Message: value.Number(5)}, Tags: strings.Fields(tags)}
		got, err := asked.Message(p)
		var in fault.In
		var at fault.At
		if got != nil || !errors.Is(err, api.ErrFault) || !errors.Is(err, fault.Kind) || !errors.As(err, &in) || in.What != "tag" || in.Index != index || !errors.As(err, &at) || at.Byte != strings.Index(functions, "(add 1 m)") {
			t.Errorf("P12: through %q: %v, %v, want a fault in tag %d", tags, got, err, index)
		}
	}
	asked := Asked{Handler: node.Handler{Message: value.Number(5)}, Tags: []string{"none"}}
	if got, err := asked.Message(p); got != nil || !errors.Is(err, fault.Function) {
		t.Errorf("P12: through no function: %v, %v", got, err)
	}
}
