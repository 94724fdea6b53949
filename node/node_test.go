package node

import (
	"errors"
	"slices"
	"strings"
	"testing"

	"stagehand/api"
	"stagehand/fault"
	"stagehand/value"
)

func text(s string) *Text { return &Text{Text: s} }

func element(tag string, nodes ...Node) *Element { return &Element{Tag: tag, Nodes: nodes} }

func keyed(tag, keys string, nodes ...Node) *Keyed {
	return &Keyed{Element: Element{Tag: tag, Nodes: nodes}, Keys: strings.Split(keys, "")}
}

func tagged(inner Node) *Tagged { return &Tagged{Function: "f", Inner: inner} }

func lazy(inner Node) *Lazy { return &Lazy{Function: "f", Inner: inner} }

func TestAlike(t *testing.T) {
	nodes := []Node{text("a"), element("a"), element("b"), keyed("a", ""), keyed("b", ""), tagged(text("a")), lazy(text("a"))}
	others := []Node{text("b"), element("a", text("a")), element("b"), keyed("a", "k", text("a")), keyed("b", ""), &Tagged{Function: "g"}, &Lazy{Function: "g"}}
	for i, one := range nodes {
		for j, other := range others {
			if got := Alike(one, other); got != (i == j) {
				t.Errorf("P9: %d and %d are alike: %v", i, j, got)
			}
		}
		if Alike(one, nil) || Alike(nil, one) {
			t.Errorf("P9: %d is like nothing", i)
		}
	}
	if Alike(nil, nil) {
		t.Error("P9: nothing is like nothing")
	}
}

func TestOpposite(t *testing.T) {
	first, second := text("first"), text("second")
	for _, one := range []struct {
		made, last Node
		i          int
		want       Node
	}{
		{element("a", text("x"), text("y")), element("a", first, second), 1, second},
		{element("a", text("x"), text("y")), element("a", first), 1, nil},
		{element("a", text("x")), element("b", first), 0, nil},
		{element("a", text("x")), keyed("a", "k", first), 0, nil},
		{keyed("a", "jk", text("x"), text("y")), keyed("a", "kj", first, second), 0, second},
		{keyed("a", "hk", text("x"), text("y")), keyed("a", "kj", first, second), 0, nil},
		{keyed("a", "k", text("x")), keyed("b", "k", first), 0, nil},
		{keyed("a", "k", text("x")), element("a", first), 0, nil},
		{tagged(nil), &Tagged{Function: "g", Inner: first}, 0, first},
		{lazy(nil), &Lazy{Function: "g", Inner: first}, 0, first},
		{tagged(nil), lazy(first), 0, nil},
		{lazy(nil), first, 0, nil},
		{element("a", text("x")), nil, 0, nil},
		{keyed("a", "k", text("x")), nil, 0, nil},
	} {
		if got := Opposite(one.made, one.last, one.i); got != one.want {
			t.Errorf("P9: opposite of %d in %T, in %T: %v, want %v", one.i, one.made, one.last, got, one.want)
		}
	}
}

func TestSizeAndBare(t *testing.T) {
	inner := element("a", text("x"), lazy(tagged(text("y"))))
	for _, one := range []struct {
		node Node
		size int
	}{{inner, 5}, {tagged(inner), 6}, {lazy(tagged(lazy(inner))), 8}} {
		if got := Size(one.node); got != one.size || Bare(one.node) != inner {
			t.Errorf("P9: %d nodes, want %d; within is %v", got, one.size, Bare(one.node))
		}
	}
	if Bare(nil) != nil || Write(nil) != "" {
		t.Error("P11: there is something in nothing")
	}
}

func TestIsOf(t *testing.T) {
	values := func(vs ...value.Value) []value.Value { return vs }
	one := &Lazy{Function: "f", Arguments: values(value.Number(1), value.NewList(values(value.Text("a"))))}
	for _, other := range []struct {
		function  string
		arguments []value.Value
		want      bool
	}{
		{"f", values(value.Number(1), value.NewList(values(value.Text("a")))), true},
		{"g", values(value.Number(1), value.NewList(values(value.Text("a")))), false},
		{"f", values(value.Number(1), value.NewList(values(value.Text("b")))), false},
		{"f", values(value.Number(1)), false},
		{"f", values(value.Number(1), value.NewList(values(value.Text("a"))), value.Number(1)), false},
	} {
		if got := one.IsOf(other.function, other.arguments); got != other.want {
			t.Errorf("P9: of %s and %v: %v", other.function, other.arguments, got)
		}
	}
}

func TestNumberKeepsMarks(t *testing.T) {
	last := tagged(element("a", text("x"), keyed("b", "kj", text("k"), text("j"))))
	greatest := Number(last, nil, 0)
	stays := Bare(last.Inner.(*Element).Nodes[0]).Marked()
	stays.IsWritten, stays.Written = true, "w"
	made := element("a", lazy(text("y")), keyed("b", "hj", text("h"), text("j")))
	greatest = Number(made, last, greatest)
	if got, want := Write(made), "<a#1>#2!'w' 'y'<b#3>#6 'h'#5 'j'</b></a>"; got != want || greatest != 6 {
		t.Errorf("P9: %s up to %d, want %s up to 6", got, greatest, want)
	}
}

func TestFindTellsTheStep(t *testing.T) {
	top := tagged(element("a", text("x"), lazy(element("b", text("y")))))
	for _, one := range []struct {
		path []int
		step int
	}{{[]int{2}, 0}, {[]int{-1}, 0}, {[]int{0, 0}, 1}, {[]int{1, 1}, 1}, {[]int{1, 0, 0, 5}, 2}} {
		found, err := Find(top, one.path)
		var none NoNode
		if found != nil || !errors.Is(err, api.ErrPath) || errors.Is(err, api.ErrFault) || !errors.As(err, &none) || none.Step != one.step {
			t.Errorf("P11: %v: %v, %v, want none at step %d", one.path, found, err, one.step)
		}
	}
	if found, err := Find(nil, nil); found != nil || !errors.Is(err, api.ErrPath) {
		t.Errorf("P11: in nothing: %v, %v", found, err)
	}
	if found, err := Find(top, []int{1, 0}); err != nil || found.(*Text).Text != "y" {
		t.Errorf("P11: %v, %v", found, err)
	}
	if told := (NoNode{Step: 3}).Error(); !strings.Contains(told, "3") || errors.Is(NoNode{}, fault.Node) {
		t.Errorf("P11: %s", told)
	}
}

func TestWayTellsTheTags(t *testing.T) {
	tag := func(function string, inner Node) *Tagged { return &Tagged{Function: function, Inner: inner} }
	deep := keyed("c", "kj", text("k"), tag("g", lazy(tag("h", text("j")))))
	middle := element("b", lazy(tag("d", tag("e", deep))), text("y"))
	top := tag("p", tag("q", lazy(element("a", text("x"), middle))))
	for _, one := range []struct {
		path []int
		tags []string // of each node on the way
	}{
		{nil, []string{"q p"}}, {[]int{0}, []string{"q p", "q p"}}, {[]int{1, 1}, []string{"q p", "q p", "q p"}},
		{[]int{1, 0}, []string{"q p", "q p", "e d q p"}}, {[]int{1, 0, 0}, []string{"q p", "q p", "e d q p", "e d q p"}}, {[]int{1, 0, 1}, []string{"q p", "q p", "e d q p", "h g e d q p"}},
	} {
		way, err := Way(top, one.path)
		var got []string
		for _, found := range way {
			got = append(got, strings.Join(found.Tags, " "))
		}
		if err != nil || !slices.Equal(got, one.tags) {
			t.Errorf("P12: on the way to %v: %q, %v, want %q", one.path, got, err, one.tags)
		}
		if found, err := Find(top, one.path); err != nil || way[len(way)-1].Node != found {
			t.Errorf("P12: the way to %v does not end there: %v", one.path, err)
		}
	}
	way, err := Way(top, []int{1, 0})
	if err != nil || len(way) != 3 || way[1].Node != middle || way[2].Node != deep {
		t.Errorf("P12: %v, %v", way, err)
	}
	for _, path := range [][]int{{2}, {-1}, {0, 0}, {1, 0, 2}} {
		if way, err := Way(top, path); way != nil || !errors.Is(err, api.ErrPath) {
			t.Errorf("P12: the way to %v: %v, %v", path, way, err)
		}
	}
}

func TestHandlersOf(t *testing.T) {
	handlers := []Handler{{Event: "go"}, {Event: "tap", Stops: true}}
	plain, keys := &Element{Handlers: handlers}, &Keyed{Element: Element{Handlers: handlers}}
	for _, one := range []struct {
		node Node
		want []Handler
	}{{plain, handlers}, {keys, handlers}, {element("a", plain), nil}, {text("x"), nil}, {tagged(plain), nil}, {lazy(plain), nil}, {nil, nil}} {
		if got := HandlersOf(one.node); !slices.Equal(got, one.want) {
			t.Errorf("P12: handlers of %T: %v, want %v", one.node, got, one.want)
		}
	}
}
