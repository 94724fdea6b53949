package show

import (
	"errors"
	"strconv"
	"strings"
	"testing"

	"stagehand/api"
	"stagehand/fault"
	"stagehand/node"
	"stagehand/program"
	"stagehand/value"
)

const functions = "(fun init () 0) (fun update (m n) n) (fun view (n) n) (fun same (x) x) (fun bad (x) (list 1 (len x)))"

// look looks at a value as it is written.
func look(t *testing.T, written string, last node.Node) (node.Node, int, error) {
	t.Helper()
	read, err := program.Read(functions)
	if err != nil {
		t.Fatal(err)
	}
	v, err := value.Read(written)
	if err != nil {
		t.Fatalf("%s: %v", written, err)
	}
	return Look(read, v, last)
}

// TestFaultsHaveTheirPlaces: the indexes are told from the outermost on.
func TestFaultsHaveTheirPlaces(t *testing.T) {
	for _, one := range []struct {
		written string
		why     fault.Why
		place   string
	}{
		{"()", fault.Node, ""}, {"('p')", fault.Node, ""}, {"('el' 'b' () (1 2 ()))", fault.Node, "node 2"}, {"('el' 'b' () (1 ('el' 'b' () (('el')))))", fault.Node, "node 1, node 0"},
		{"('el' 'b' (('a' 'b') 5) ())", fault.Attribute, "attribute 1"}, {"('el' 'b' () (('el' 'b' (('on' 'go')) ())))", fault.Attribute, "node 0, attribute 0"},
		{"('keyed' 'b' () (('a' 1) 5))", fault.Pair, "pair 1"}, {"('keyed' 'b' () (('a' 1) ('b' 2) ('a' 1)))", fault.Key, "pair 2"}, {"('keyed' 'b' () (('a' 1) ('b' ())))", fault.Node, "node 1"},
		{"('tag' 'no' 1)", fault.Function, ""}, {"('el' 'b' () (('lazy' 'same')))", fault.Function, "node 0"}, {"('tag' 'same' ('el' 'b' () (0 ('lazy' 'same' ()))))", fault.Node, "node 1"},
		{"('el' 'b' () (" + strings.Repeat("0 ", api.MaxNodes-1) + "0))", fault.Nodes, "node 99"},
	} {
		got, _, err := look(t, one.written, nil)
		if got != nil || !errors.Is(err, api.ErrFault) || !errors.Is(err, one.why) || placeOf(err) != one.place {
			t.Errorf("P9: %s: %v, %v, want %v in %q", one.written, got, err, one.why, one.place)
		}
	}
}

func placeOf(err error) string {
	var places []string
	for in := (fault.In{}); errors.As(err, &in); err = in.Cause {
		places = append(places, in.What+" "+strconv.Itoa(in.Index))
	}
	return strings.Join(places, ", ")
}

func TestFaultsOfLazyNodesHaveTheirByte(t *testing.T) {
	got, lazies, err := look(t, "('el' 'b' () (0 ('lazy' 'bad' 'abc') ('lazy' 'bad' 5)))", nil)
	if !errors.Is(err, fault.Node) || got != nil || lazies != 1 || placeOf(err) != "node 1" {
		t.Errorf("P9: %v, %d, %v: want no node in node 1", got, lazies, err)
	}
	got, lazies, err = look(t, "('el' 'b' () (0 ('lazy' 'same' 1) ('lazy' 'bad' 5)))", nil)
	var at fault.At
	if !errors.Is(err, fault.Kind) || got != nil || lazies != 2 || placeOf(err) != "node 2" || !errors.As(err, &at) || at.Byte != strings.Index(functions, "(len x)") {
		t.Errorf("P9: %v, %d, %v: want another kind, at the byte of (len x)", got, lazies, err)
	}
}

func TestLazyNodesAreThoseOfTheLast(t *testing.T) {
	const written = "('el' 'b' () (('lazy' 'same' ('el' 'c' () (1))) ('lazy' 'same' 2)))"
	last, lazies, err := look(t, written, nil)
	if err != nil || lazies != 2 {
		t.Fatalf("P9: %d, %v", lazies, err)
	}
	node.Number(last, nil, 0)
	before := node.Write(last)
	made, lazies, err := look(t, strings.Replace(written, "2", "3", 1), last)
	if err != nil || lazies != 1 {
		t.Fatalf("P9: %d lazy nodes reckoned, %v, want 1", lazies, err)
	}
	if node.Inside(made)[0] != node.Inside(last)[0] || node.Inside(made)[1] == node.Inside(last)[1] {
		t.Error("P9: the lazy nodes are others than they were")
	}
	if got := node.Write(last); got != before {
		t.Errorf("P9: what is shown was changed: %s, want %s", got, before)
	}
}

func TestHandlersStandApart(t *testing.T) {
	made, _, err := look(t, "('el' 'b' (('on' 'go' (1)) ('id' 'x') ('on' 'up' 2 0) ('on' 'go' 3 -1)) ())", nil)
	if err != nil {
		t.Fatalf("P9: %v", err)
	}
	element, ok := made.(*node.Element)
	if !ok || len(element.Attributes) != 1 || len(element.Handlers) != 3 {
		t.Fatalf("P9: %v", made)
	}
	for i, want := range []struct {
		event, message string
		stops          bool
	}{{"go", "(1)", false}, {"up", "2", false}, {"go", "3", true}} {
		got := element.Handlers[i]
		if got.Event != want.event || value.Write(got.Message) != want.message || got.Stops != want.stops {
			t.Errorf("P9: handler %d: %v, want %v", i, got, want)
		}
	}
}
