package program

import (
	"slices"

	"stagehand/api"
)

// arities tells of each function by its name how many parameters it has.
type arities map[string]int

// checkNames goes through all names in the order of the text, so that the first error it meets is the first by its place.
func checkNames(functions []Function) error {
	ahead := arities{}
	for _, function := range functions {
		if err := checkFunction(function, ahead); err != nil {
			return err
		}
		ahead[function.Name.Word] = len(function.Parameters)
	}
	return nil
}

func checkFunction(function Function, ahead arities) error {
	if _, there := ahead[function.Name.Word]; there {
		return wrongName(function.Name, api.ErrTwice)
	}
	var scope []string
	for _, parameter := range function.Parameters {
		if slices.Contains(scope, parameter.Word) {
			return wrongName(parameter, api.ErrTwice)
		}
		scope = append(scope, parameter.Word)
	}
	return checkExpr(function.Body, scope, ahead)
}

func checkExpr(expr Expr, scope []string, ahead arities) error {
	switch e := expr.(type) {
	case Variable:
		if !slices.Contains(scope, e.Word) {
			return api.Wrong{Place: e.Place(), Cause: api.ErrName}
		}
	case Let:
		if err := checkExpr(e.Value, scope, ahead); err != nil {
			return err
		}
		return checkExpr(e.Body, within(scope, e.Name), ahead)
	case Call:
		if err := ahead.check(e.Function, len(e.Arguments)); err != nil {
			return err
		}
		return checkExprs(e.Arguments, scope, ahead)
	case Map:
		if err := ahead.check(e.Function, 1); err != nil {
			return err
		}
		return checkExpr(e.List, scope, ahead)
	case List:
		return checkExprs(e.Items, scope, ahead)
	case If:
		return checkExprs([]Expr{e.Condition, e.Then, e.Else}, scope, ahead)
	case Set:
		return checkExprs([]Expr{e.List, e.Index, e.Value}, scope, ahead)
	case Binary:
		return checkExprs([]Expr{e.First, e.Second}, scope, ahead)
	case Len:
		return checkExpr(e.Of, scope, ahead)
	}
	return nil
}

func checkExprs(exprs []Expr, scope []string, ahead arities) error {
	for _, expr := range exprs {
		if err := checkExpr(expr, scope, ahead); err != nil {
			return err
		}
	}
	return nil
}

func (ahead arities) check(function Name, arguments int) error {
	parameters, there := ahead[function.Word]
	if !there {
		return wrongName(function, api.ErrName)
	}
	if parameters != arguments {
		return wrongName(function, api.ErrArity)
	}
	return nil
}

// within clips the scope, so that two lets beside one another do not write into the same room.
func within(scope []string, name Name) []string {
	return append(slices.Clip(scope), name.Word)
}

func wrongName(name Name, cause error) error {
	return api.Wrong{Place: name.Place, Cause: cause}
}
