package reckon

import (
	"slices"

	"stagehand/fault"
	"stagehand/program"
	"stagehand/value"
)

func operate(operation program.Operation, first, second value.Value) (value.Value, error) {
	switch operation {
	case program.Eq:
		return truth(value.Same(first, second)), nil
	case program.At:
		return itemAt(first, second)
	case program.Join:
		return joined(first, second)
	}
	a, ok := first.(value.Number)
	b, both := second.(value.Number)
	if !ok || !both {
		return nil, fault.Kind
	}
	switch operation {
	case program.Add:
		return a + b, nil
	case program.Sub:
		return a - b, nil
	case program.Mul:
		return a * b, nil
	case program.Less:
		return truth(a < b), nil
	}
	return nil, fault.Kind
}

func truth(is bool) value.Value {
	if is {
		return value.Number(1)
	}
	return value.Number(0)
}

func lengthOf(v value.Value) (value.Value, error) {
	switch v := v.(type) {
	case value.Text:
		return value.Number(len(v)), nil
	case value.List:
		return value.Number(len(v.Items())), nil
	}
	return nil, fault.Kind
}

func joined(first, second value.Value) (value.Value, error) {
	switch a := first.(type) {
	case value.Text:
		if b, ok := second.(value.Text); ok {
			return a + b, nil
		}
	case value.List:
		if b, ok := second.(value.List); ok {
			return value.NewList(slices.Concat(a.Items(), b.Items())), nil
		}
	}
	return nil, fault.Kind
}

func itemAt(list, index value.Value) (value.Value, error) {
	items, i, err := placeIn(list, index)
	if err != nil {
		return nil, err
	}
	return items[i], nil
}

func replaced(list, index, with value.Value) (value.Value, error) {
	items, i, err := placeIn(list, index)
	if err != nil {
		return nil, err
	}
	changed := slices.Clone(items)
	changed[i] = with
	return value.NewList(changed), nil
}

func placeIn(list, index value.Value) ([]value.Value, int, error) {
	l, isList := list.(value.List)
	i, isNumber := index.(value.Number)
	if !isList || !isNumber {
		return nil, 0, fault.Kind
	}
	items := l.Items()
	if i < 0 || i >= value.Number(len(items)) {
		return nil, 0, fault.Place
	}
	return items, int(i), nil
}
