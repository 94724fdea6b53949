package program

import (
	"errors"
	"reflect"
	"slices"
	"testing"

	"stagehand/api"
)

const main = "(fun init () 0) (fun update (m n) n) (fun view (n) n)"

// bodyOf reads an expr as the body of a function with the parameters x, y, z, behind a function f.
func bodyOf(t *testing.T, expr string) Expr {
	t.Helper()
	read, err := Read("(fun f (x) x) (fun g (x y z) " + expr + ")" + main)
	if err != nil {
		t.Fatalf("P3: %s: %v", expr, err)
	}
	return read.Functions[1].Body
}

// unplaced makes the trees of one test alike, wherever their names stand.
func unplaced(expr Expr) Expr {
	all := func(exprs []Expr) []Expr {
		var done []Expr
		for _, e := range exprs {
			done = append(done, unplaced(e))
		}
		return done
	}
	switch e := expr.(type) {
	case Number:
		return Number{0, e.Value}
	case Text:
		return Text{0, e.Value}
	case Variable:
		return named(e.Word)
	case List:
		return List{0, all(e.Items)}
	case If:
		return If{0, unplaced(e.Condition), unplaced(e.Then), unplaced(e.Else)}
	case Let:
		return Let{0, Name{Word: e.Name.Word}, unplaced(e.Value), unplaced(e.Body)}
	case Binary:
		return Binary{0, e.Operation, unplaced(e.First), unplaced(e.Second)}
	case Len:
		return Len{0, unplaced(e.Of)}
	case Set:
		return Set{0, unplaced(e.List), unplaced(e.Index), unplaced(e.Value)}
	case Call:
		return Call{0, Name{Word: e.Function.Word}, all(e.Arguments)}
	case Map:
		return Map{0, Name{Word: e.Function.Word}, unplaced(e.List)}
	}
	return expr
}

func named(word string) Expr { return Variable{0, word} }

func TestTrees(t *testing.T) {
	x, y, z := named("x"), named("y"), named("z")
	cases := map[string]Expr{
		"5":                       Number{0, 5},
		"-007":                    Number{0, -7},
		"-999999999":              Number{0, -999999999},
		"''":                      Text{0, ""},
		"' list '":                Text{0, " list "},
		"x":                       x,
		"(list)":                  List{},
		"(list x 1 (list))":       List{0, []Expr{x, Number{0, 1}, List{}}},
		"(if x y z)":              If{0, x, y, z},
		"(let a x (add a y))":     Let{0, Name{Word: "a"}, x, Binary{0, Add, named("a"), y}},
		"(sub x y)":               Binary{0, Sub, x, y},
		"(mul x y)":               Binary{0, Mul, x, y},
		"(eq x y)":                Binary{0, Eq, x, y},
		"(less x y)":              Binary{0, Less, x, y},
		"(at x y)":                Binary{0, At, x, y},
		"(join x y)":              Binary{0, Join, x, y},
		"(len x)":                 Len{0, x},
		"(set x y z)":             Set{0, x, y, z},
		"(call f (call f z))":     Call{0, Name{Word: "f"}, []Expr{Call{0, Name{Word: "f"}, []Expr{z}}}},
		"(map f (if x y(len z)))": Map{0, Name{Word: "f"}, If{0, x, y, Len{0, z}}},
	}
	for text, want := range cases {
		if got := unplaced(bodyOf(t, text)); !reflect.DeepEqual(got, want) {
			t.Errorf("P3: %s is read as %#v, want %#v", text, got, want)
		}
	}
}

func TestFunctions(t *testing.T) {
	read, err := Read(main)
	want := []Function{
		{Name{"init", 5}, nil, Number{13, 0}},
		{Name{"update", 21}, []Name{{"m", 29}, {"n", 31}}, Variable{34, "n"}},
		{Name{"view", 42}, []Name{{"n", 48}}, Variable{51, "n"}},
	}
	if err != nil || !reflect.DeepEqual(read.Functions, want) {
		t.Errorf("P3: %s is read as %v, %v, want %v", main, read.Functions, err, want)
	}
}

func TestNothingBesideAnError(t *testing.T) {
	for text, want := range map[string]error{
		string(make([]byte, api.MaxText+1)): api.ErrLong,
		main + ")":                          api.ErrText,
		main + "(fun f () x)":               api.ErrName,
		"(fun init () 0)":                   api.ErrMain,
	} {
		read, err := Read(text)
		if !errors.Is(err, want) || read.Functions != nil {
			t.Errorf("P1: Read(%.40q): %v, %v, want nothing and %v", text, read, err, want)
		}
	}
}

func TestPlaces(t *testing.T) {
	read, err := Read(main + "(fun f (x)\n (list 1 'a' x (len x)))")
	if err != nil {
		t.Fatal(err)
	}
	list := read.Functions[3].Body.(List)
	first := len(main) + len("(fun f (x)\n ")
	got := []int{list.Place(), list.Items[0].Place(), list.Items[1].Place(), list.Items[2].Place(), list.Items[3].Place()}
	if want := []int{first, first + 6, first + 8, first + 12, first + 14}; !slices.Equal(got, want) {
		t.Errorf("P3: places %v, want %v", got, want)
	}
}

func TestFind(t *testing.T) {
	read, _ := Read(main)
	for _, function := range read.Functions {
		for parameters := -1; parameters < 4; parameters++ {
			found, there := read.Find(function.Name.Word, parameters)
			if want := parameters == len(function.Parameters); there != want || there && found.Name != function.Name || !there && found.Body != nil {
				t.Errorf("P6: Find(%s, %d): %v, %v", function.Name.Word, parameters, found, there)
			}
		}
	}
	if found, there := read.Find("none", 0); there || found.Body != nil {
		t.Errorf("P6: Find(none, 0): %v, %v", found, there)
	}
}
