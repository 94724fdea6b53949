package fault

import (
	"errors"
	"strings"
	"testing"

	"stagehand/api"
)

func TestEveryFaultIsOne(t *testing.T) {
	for _, why := range []Why{Kind, Place, Weight, Steps, Written, Name, Function, Node, Attribute, Pair, Key, Nodes, Scribble} {
		for _, err := range []error{why, At{3, why}, In{"argument", 1, At{3, why}}, In{"node", 2, In{"attribute", 0, why}}} {
			if !errors.Is(err, api.ErrFault) || !errors.Is(err, why) || errors.Is(err, api.ErrPath) {
				t.Errorf("P6: %v is no fault, or another one", err)
			}
			if !strings.Contains(err.Error(), string(why)) {
				t.Errorf("P6: %v does not tell %s", err, why)
			}
		}
	}
}

func TestPlaces(t *testing.T) {
	err := Placed(9, In{"argument", 2, Placed(5, Kind)})
	var at At
	var in In
	if !errors.As(err, &at) || at.Byte != 5 {
		t.Errorf("P6: %v is not at its innermost place", err)
	}
	if !errors.As(err, &in) || in.What != "argument" || in.Index != 2 {
		t.Errorf("P6: %v is not in its argument", err)
	}
}
