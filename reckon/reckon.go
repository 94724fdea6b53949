// Package reckon tells what the functions of a program give.
package reckon

import (
	"stagehand/api"
	"stagehand/fault"
	"stagehand/program"
	"stagehand/value"
)

// machine carries out one reckoning. It always ends: a function calls only those ahead of it, and the steps are bounded.
type machine struct {
	program program.Program
	steps   int
}

// Named gives what the function of this name gives for these arguments, or a fault, with its place in the program. It begins with no steps.
func Named(p program.Program, name string, arguments ...value.Value) (value.Value, error) {
	m := &machine{program: p}
	return m.call(name, arguments...)
}

func (m *machine) call(name string, arguments ...value.Value) (value.Value, error) {
	function, there := m.program.Find(name, len(arguments))
	if !there {
		return nil, fault.Function
	}
	var names *scope
	for i, parameter := range function.Parameters {
		names = names.with(parameter.Word, arguments[i])
	}
	return m.reckon(function.Body, names)
}

// reckon is a step, and sees to it that no value above the bound is handed on.
func (m *machine) reckon(expr program.Expr, names *scope) (value.Value, error) {
	if m.steps == api.MaxSteps {
		return nil, fault.Placed(expr.Place(), fault.Steps)
	}
	m.steps++
	given, err := m.carryOut(expr, names)
	if err == nil && value.Weigh(given) > api.MaxWeight {
		err = fault.Weight
	}
	if err != nil {
		return nil, fault.Placed(expr.Place(), err)
	}
	return given, nil
}

func (m *machine) carryOut(expr program.Expr, names *scope) (value.Value, error) {
	switch e := expr.(type) {
	case program.Number:
		return value.Number(e.Value), nil
	case program.Text:
		return value.Text(e.Value), nil
	case program.Variable:
		return names.find(e.Word)
	case program.List:
		items, err := m.all(names, e.Items...)
		return value.NewList(items), err
	case program.If:
		return m.choose(e, names)
	case program.Let:
		return m.let(e, names)
	case program.Binary:
		return m.binary(e, names)
	case program.Len:
		return m.length(e, names)
	case program.Set:
		return m.set(e, names)
	case program.Call:
		return m.callWith(e, names)
	case program.Map:
		return m.mapOver(e, names)
	}
	return nil, fault.Kind
}

// all reckons exprs from the first to the last.
func (m *machine) all(names *scope, exprs ...program.Expr) ([]value.Value, error) {
	given := make([]value.Value, 0, len(exprs))
	for _, expr := range exprs {
		next, err := m.reckon(expr, names)
		if err != nil {
			return nil, err
		}
		given = append(given, next)
	}
	return given, nil
}

func (m *machine) choose(e program.If, names *scope) (value.Value, error) {
	given, err := m.reckon(e.Condition, names)
	if err != nil {
		return nil, err
	}
	condition, ok := given.(value.Number)
	if !ok {
		return nil, fault.Kind
	}
	if condition != 0 {
		return m.reckon(e.Then, names)
	}
	return m.reckon(e.Else, names)
}

func (m *machine) let(e program.Let, names *scope) (value.Value, error) {
	given, err := m.reckon(e.Value, names)
	if err != nil {
		return nil, err
	}
	return m.reckon(e.Body, names.with(e.Name.Word, given))
}

func (m *machine) binary(e program.Binary, names *scope) (value.Value, error) {
	given, err := m.all(names, e.First, e.Second)
	if err != nil {
		return nil, err
	}
	return operate(e.Operation, given[0], given[1])
}

func (m *machine) length(e program.Len, names *scope) (value.Value, error) {
	given, err := m.reckon(e.Of, names)
	if err != nil {
		return nil, err
	}
	return lengthOf(given)
}

func (m *machine) set(e program.Set, names *scope) (value.Value, error) {
	given, err := m.all(names, e.List, e.Index, e.Value)
	if err != nil {
		return nil, err
	}
	return replaced(given[0], given[1], given[2])
}

func (m *machine) callWith(e program.Call, names *scope) (value.Value, error) {
	arguments, err := m.all(names, e.Arguments...)
	if err != nil {
		return nil, err
	}
	return m.call(e.Function.Word, arguments...)
}

func (m *machine) mapOver(e program.Map, names *scope) (value.Value, error) {
	given, err := m.reckon(e.List, names)
	if err != nil {
		return nil, err
	}
	list, ok := given.(value.List)
	if !ok {
		return nil, fault.Kind
	}
	var mapped []value.Value
	for _, item := range list.Items() {
		next, err := m.call(e.Function.Word, item)
		if err != nil {
			return nil, err
		}
		mapped = append(mapped, next)
	}
	return value.NewList(mapped), nil
}
