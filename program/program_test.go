package program

import (
	"errors"
	"reflect"
	"testing"

	"stagehand/api"
)

const main = "(fun init () 0) (fun update (m n) n) (fun view (n) n)"

// bodyOf reads an expr as the body of a function with the parameters x, y, z, behind a function f.
func bodyOf(t *testing.T, expr string) Expr {
	t.Helper()
	read, err := Read("(fun f (x) x) (fun g (x y z) " + expr + ")" + main)
	if err != nil {
		t.Fatalf("P3: %s: %v", expr, err)
	}
	return read.Functions[1].Body
}

// unplaced makes the trees of one test alike, wherever their names stand.
func unplaced(expr Expr) Expr {
	all := func(exprs []Expr) []Expr {
		var done []Expr
		for _, e := range exprs {
			done = append(done, unplaced(e))
		}
		return done
	}
	switch e := expr.(type) {
	case Variable:
		return named(e.Name.Word)
	case List:
		return List{all(e.Items)}
	case If:
		return If{unplaced(e.Condition), unplaced(e.Then), unplaced(e.Else)}
	case Let:
		return Let{Name{Word: e.Name.Word}, unplaced(e.Value), unplaced(e.Body)}
	case Binary:
		return Binary{e.Operation, unplaced(e.First), unplaced(e.Second)}
	case Len:
		return Len{unplaced(e.Of)}
	case Set:
		return Set{unplaced(e.List), unplaced(e.Place), unplaced(e.Value)}
	case Call:
		return Call{Name{Word: e.Function.Word}, all(e.Arguments)}
	case Map:
		return Map{Name{Word: e.Function.Word}, unplaced(e.List)}
	}
	return expr
}

func named(word string) Expr { return Variable{Name{Word: word}} }

func TestTrees(t *testing.T) {
	x, y, z := named("x"), named("y"), named("z")
	cases := map[string]Expr{
		"5":                       Number{5},
		"-007":                    Number{-7},
		"-999999999":              Number{-999999999},
		"''":                      Text{""},
		"' list '":                Text{" list "},
		"x":                       x,
		"(list)":                  List{},
		"(list x 1 (list))":       List{[]Expr{x, Number{1}, List{}}},
		"(if x y z)":              If{x, y, z},
		"(let a x (add a y))":     Let{Name{Word: "a"}, x, Binary{Add, named("a"), y}},
		"(sub x y)":               Binary{Sub, x, y},
		"(mul x y)":               Binary{Mul, x, y},
		"(eq x y)":                Binary{Eq, x, y},
		"(less x y)":              Binary{Less, x, y},
		"(at x y)":                Binary{At, x, y},
		"(join x y)":              Binary{Join, x, y},
		"(len x)":                 Len{x},
		"(set x y z)":             Set{x, y, z},
		"(call f (call f z))":     Call{Name{Word: "f"}, []Expr{Call{Name{Word: "f"}, []Expr{z}}}},
		"(map f (if x y(len z)))": Map{Name{Word: "f"}, If{x, y, Len{z}}},
	}
	for text, want := range cases {
		if got := unplaced(bodyOf(t, text)); !reflect.DeepEqual(got, want) {
			t.Errorf("P3: %s is read as %#v, want %#v", text, got, want)
		}
	}
}

func TestFunctions(t *testing.T) {
	read, err := Read(main)
	want := []Function{
		{Name{"init", 5}, nil, Number{0}},
		{Name{"update", 21}, []Name{{"m", 29}, {"n", 31}}, Variable{Name{"n", 34}}},
		{Name{"view", 42}, []Name{{"n", 48}}, Variable{Name{"n", 51}}},
	}
	if err != nil || !reflect.DeepEqual(read.Functions, want) {
		t.Errorf("P3: %s is read as %v, %v, want %v", main, read.Functions, err, want)
	}
}

func TestNothingBesideAnError(t *testing.T) {
	for text, want := range map[string]error{
		string(make([]byte, api.MaxText+1)): api.ErrLong,
		main + ")":                          api.ErrText,
		main + "(fun f () x)":               api.ErrName,
		"(fun init () 0)":                   api.ErrMain,
	} {
		read, err := Read(text)
		if !errors.Is(err, want) || read.Functions != nil {
			t.Errorf("P1: Read(%.40q): %v, %v, want nothing and %v", text, read, err, want)
		}
	}
}
