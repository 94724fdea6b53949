package node

import (
	"errors"
	"strings"
	"testing"

	"stagehand/api"
	"stagehand/fault"
	"stagehand/value"
)

func text(s string) *Text { return &Text{Text: s} }

func element(tag string, nodes ...Node) *Element { return &Element{Tag: tag, Nodes: nodes} }

func keyed(tag, keys string, nodes ...Node) *Keyed {
	return &Keyed{Element: Element{Tag: tag, Nodes: nodes}, Keys: strings.Split(keys, "")}
}

func tagged(inner Node) *Tagged { return &Tagged{Function: "f", Inner: inner} }

func lazy(inner Node) *Lazy { return &Lazy{Function: "f", Inner: inner} }

func TestAlike(t *testing.T) {
	nodes := []Node{text("a"), element("a"), element("b"), keyed("a", ""), keyed("b", ""), tagged(text("a")), lazy(text("a"))}
	others := []Node{text("b"), element("a", text("a")), element("b"), keyed("a", "k", text("a")), keyed("b", ""), &Tagged{Function: "g"}, &Lazy{Function: "g"}}
	for i, one := range nodes {
		for j, other := range others {
			if got := Alike(one, other); got != (i == j) {
				t.Errorf("P9: %d and %d are alike: %v", i, j, got)
			}
		}
		if Alike(one, nil) || Alike(nil, one) {
			t.Errorf("P9: %d is like nothing", i)
		}
	}
	if Alike(nil, nil) {
		t.Error("P9: nothing is like nothing")
	}
}

func TestOpposite(t *testing.T) {
	first, second := text("first"), text("second")
	for _, one := range []struct {
		made, last Node
		i          int
		want       Node
	}{
		{element("a", text("x"), text("y")), element("a", first, second), 1, second},
		{element("a", text("x"), text("y")), element("a", first), 1, nil},
		{element("a", text("x")), element("b", first), 0, nil},
		{element("a", text("x")), keyed("a", "k", first), 0, nil},
		{keyed("a", "jk", text("x"), text("y")), keyed("a", "kj", first, second), 0, second},
		{keyed("a", "hk", text("x"), text("y")), keyed("a", "kj", first, second), 0, nil},
		{keyed("a", "k", text("x")), keyed("b", "k", first), 0, nil},
		{keyed("a", "k", text("x")), element("a", first), 0, nil},
		{tagged(nil), &Tagged{Function: "g", Inner: first}, 0, first},
		{lazy(nil), &Lazy{Function: "g", Inner: first}, 0, first},
		{tagged(nil), lazy(first), 0, nil},
		{lazy(nil), first, 0, nil},
		{element("a", text("x")), nil, 0, nil},
		{keyed("a", "k", text("x")), nil, 0, nil},
	} {
		if got := Opposite(one.made, one.last, one.i); got != one.want {
			t.Errorf("P9: opposite of %d in %T, in %T: %v, want %v", one.i, one.made, one.last, got, one.want)
		}
	}
}

func TestSizeAndBare(t *testing.T) {
	inner := element("a", text("x"), lazy(tagged(text("y"))))
	for _, one := range []struct {
		node Node
		size int
	}{{inner, 5}, {tagged(inner), 6}, {lazy(tagged(lazy(inner))), 8}} {
		if got := Size(one.node); got != one.size || Bare(one.node) != inner {
			t.Errorf("P9: %d nodes, want %d; within is %v", got, one.size, Bare(one.node))
		}
	}
	if Bare(nil) != nil || Write(nil) != "" {
		t.Error("P11: there is something in nothing")
	}
}

func TestIsOf(t *testing.T) {
	values := func(vs ...value.Value) []value.Value { return vs }
	one := &Lazy{Function: "f", Arguments: values(value.Number(1), value.NewList(values(value.Text("a"))))}
	for _, other := range []struct {
		function  string
		arguments []value.Value
		want      bool
	}{
		{"f", values(value.Number(1), value.NewList(values(value.Text("a")))), true},
		{"g", values(value.Number(1), value.NewList(values(value.Text("a")))), false},
		{"f", values(value.Number(1), value.NewList(values(value.Text("b")))), false},
		{"f", values(value.Number(1)), false},
		{"f", values(value.Number(1), value.NewList(values(value.Text("a"))), value.Number(1)), false},
	} {
		if got := one.IsOf(other.function, other.arguments); got != other.want {
			t.Errorf("P9: of %s and %v: %v", other.function, other.arguments, got)
		}
	}
}

func TestNumberKeepsMarks(t *testing.T) {
	last := tagged(element("a", text("x"), keyed("b", "kj", text("k"), text("j"))))
	greatest := Number(last, nil, 0)
	stays := Bare(last.Inner.(*Element).Nodes[0]).Marked()
	stays.IsWritten, stays.Written = true, "w"
	made := element("a", lazy(text("y")), keyed("b", "hj", text("h"), text("j")))
	greatest = Number(made, last, greatest)
	if got, want := Write(made), "<a#1>#2!'w' 'y'<b#3>#6 'h'#5 'j'</b></a>"; got != want || greatest != 6 {
		t.Errorf("P9: %s up to %d, want %s up to 6", got, greatest, want)
	}
}

func TestFindTellsTheStep(t *testing.T) {
	top := tagged(element("a", text("x"), lazy(element("b", text("y")))))
	for _, one := range []struct {
		path []int
		step int
	}{{[]int{2}, 0}, {[]int{-1}, 0}, {[]int{0, 0}, 1}, {[]int{1, 1}, 1}, {[]int{1, 0, 0, 5}, 2}} {
		found, err := Find(top, one.path)
		var none NoNode
		if found != nil || !errors.Is(err, api.ErrPath) || errors.Is(err, api.ErrFault) || !errors.As(err, &none) || none.Step != one.step {
			t.Errorf("P11: %v: %v, %v, want none at step %d", one.path, found, err, one.step)
		}
	}
	if found, err := Find(nil, nil); found != nil || !errors.Is(err, api.ErrPath) {
		t.Errorf("P11: in nothing: %v, %v", found, err)
	}
	if found, err := Find(top, []int{1, 0}); err != nil || found.(*Text).Text != "y" {
		t.Errorf("P11: %v, %v", found, err)
	}
	if told := (NoNode{Step: 3}).Error(); !strings.Contains(told, "3") || errors.Is(NoNode{}, fault.Node) {
		t.Errorf("P11: %s", told)
	}
}
