package reckon

import (
	"errors"
	"strings"
	"testing"

	"stagehand/api"
	"stagehand/fault"
	"stagehand/program"
	"stagehand/value"
)

const head = "(fun init () 0) (fun update (m n) n) (fun view (n) n) (fun id (x) x) (fun bad (x) (len 5)) "

// given reckons f, the last function of a program, with a list of 598 numbers.
func given(t *testing.T, text string) (value.Value, error) {
	t.Helper()
	read, err := program.Read(text)
	if err != nil {
		t.Fatalf("%s: %v", text, err)
	}
	numbers := make([]value.Value, 598)
	for i := range numbers {
		numbers[i] = value.Number(i)
	}
	return Named(read, "f", value.NewList(numbers))
}

func TestFaultsHaveTheirPlaces(t *testing.T) {
	cases := []struct {
		why    fault.Why
		marked string
	}{
		{fault.Kind, "@(add 1 'a')"},
		{fault.Kind, "(add 1 @(sub 'a' 1))"},
		{fault.Kind, "(list 1 (list (if 0 1 @(mul x 1))))"},
		{fault.Kind, "@(if 'a' 1 2)"},
		{fault.Kind, "(let y @(less 1 'a') (len 5))"},
		{fault.Kind, "(let y 5 @(len y))"},
		{fault.Kind, "@(map id 5)"},
		{fault.Kind, "@(join 'a' x)"},
		{fault.Kind, "@(set 'a' 1 2)"},
		{fault.Place, "@(at x 598)"},
		{fault.Place, "@(set x -1 0)"},
		{fault.Weight, "(len @(list x 1))"},
		{fault.Weight, "(len @(join x (list 1 2)))"},
		{fault.Weight, "(len @(set x 0 'ab'))"},
	}
	for _, one := range cases {
		body := strings.Replace(one.marked, "@", "", 1)
		ahead := head + "(fun f (x) "
		wantFault(t, ahead+body+")", one.why, len(ahead)+strings.Index(one.marked, "@"))
	}
}

func TestFaultsWithinFunctionsHaveTheirPlaces(t *testing.T) {
	inner := strings.Index(head, "(len 5)")
	wantFault(t, head+"(fun f (x) (list (call bad 1)))", fault.Kind, inner)
	wantFault(t, head+"(fun f (x) (map bad x))", fault.Kind, inner)
	wantFault(t, head+"(fun f (x) (map bad (call bad 1)))", fault.Kind, inner)
}

func TestTooManyStepsHaveTheirPlace(t *testing.T) {
	ahead := head + "(fun all (y x) (map id x)) (fun f (x) (list "
	// the list is 1 step; each call, with 3 of its own, 2 of all's map and 598 of id: 603; so 33 of them end at 19900
	calls := strings.Repeat("(len (call all 1 x))", 33)
	inner := strings.Index(head, "(fun id (x) x)") + len("(fun id (x) ")
	wantFault(t, ahead+calls+"(call all 1 x)))", fault.Steps, inner)
}

func wantFault(t *testing.T, text string, why fault.Why, place int) {
	t.Helper()
	got, err := given(t, text)
	var at fault.At
	if got != nil || !errors.Is(err, api.ErrFault) || !errors.Is(err, why) || !errors.As(err, &at) || at.Byte != place {
		t.Errorf("P6: %s: %v, %v, want %v at %d", text[len(head):], got, err, why, place)
	}
}

func TestNoSuchFunction(t *testing.T) {
	read, err := program.Read(head)
	if err != nil {
		t.Fatal(err)
	}
	for name, arguments := range map[string][]value.Value{"none": nil, "": nil, "init": {value.Number(1)}, "update": {value.Number(1)}, "view": nil} {
		if got, err := Named(read, name, arguments...); got != nil || !errors.Is(err, fault.Function) {
			t.Errorf("P6: %s of %v: %v, %v, want %v", name, arguments, got, err, fault.Function)
		}
	}
}

func TestEachReckoningBeginsWithNoSteps(t *testing.T) {
	text := head + "(fun f (x) (list " + strings.Repeat("(len (map id x))", 20) + "))"
	for range 5 {
		if got, err := given(t, text); err != nil || value.Weigh(got) != 21 {
			t.Fatalf("P6: %v, %v", got, err)
		}
	}
}

func TestListsStayAsTheyWere(t *testing.T) {
	got, err := given(t, head+"(fun f (x) (let y (list 1 2) (let z (set y 0 9) (let w (join y (list 3)) (let v (join y (list 4)) (list y z w v))))))")
	if want := "((1 2) (9 2) (1 2 3) (1 2 4))"; err != nil || value.Write(got) != want {
		t.Errorf("P6: %v, %v, want %s", got, err, want)
	}
}
