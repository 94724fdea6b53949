package stagehand_test

import (
	"errors"
	"math"
	"strconv"
	"strings"
	"testing"

	"stagehand/api"
	"stagehand/stagehand"
)

// taking is an expr that gives the number 98, in just so many steps, for a program that has bulk.
func taking(steps int) string {
	many := (steps - 6) / 101 // each value of the mapped list is one step, and 100 of bulk
	rest := steps - 4 - many*101
	return "(let a (list" + strings.Repeat(" 0", rest-2) + ") (at (map bulk (list" + strings.Repeat(" 0", many) + ")) 0))"
}

// begun is an App of a program with which nothing is wrong.
func begun(t *testing.T, text string) *stagehand.App {
	t.Helper()
	a, err := stagehand.New(text)
	if a == nil || err != nil {
		t.Fatalf("P7: New(%.200q): an App: %v, %v", text, a != nil, err)
	}
	return a
}

// showing is an App whose model is the message that came last, at first 0, and that shows just this; the message 'bad' is a fault.
func showing(t *testing.T, functions string) *stagehand.App {
	t.Helper()
	return begun(t, functions+" (fun init () 0) (fun update (m n) (if (eq m 'bad') (len 5) m)) (fun view (n) n)")
}

// collecting is an App whose model is the list of all messages that were handled.
func collecting(t *testing.T) *stagehand.App {
	t.Helper()
	return begun(t, "(fun init () (list)) (fun update (m n) (if (eq m 'bad') (len 5) (join n (list m)))) (fun view (n) (len n))")
}

func send(t *testing.T, a *stagehand.App, messages ...string) {
	t.Helper()
	for _, message := range messages {
		if err := a.Send(message); err != nil {
			t.Errorf("P8: Send(%.60q): %v", message, err)
		}
	}
}

func wantPumped(t *testing.T, a *stagehand.App, most, want int) {
	t.Helper()
	if got := a.Pump(most); got != want {
		t.Errorf("P8: Pump(%d): %d, want %d", most, got, want)
	}
}

func wantModel(t *testing.T, a *stagehand.App, want string) {
	t.Helper()
	if got := a.Model(); got != want {
		t.Errorf("P7: Model(): %.200s, want %.200s", got, want)
	}
}

func wantCounts(t *testing.T, a *stagehand.App, want api.Count) {
	t.Helper()
	if got := a.Counts(); got != want {
		t.Errorf("P13: Counts(): %+v, want %+v", got, want)
	}
}

func TestP7WhatIsAtFirst(t *testing.T) {
	for init, want := range map[string]string{"0": "0", "-7": "-7", "''": "''", "'a b'": "'a b'", "(list)": "()", "(list 1 (list 'a' -2) '')": "(1 ('a' -2) '')", "(call two)": "2"} {
		a := begun(t, "(fun two () 2) (fun init () "+init+") (fun update (m n) (len 5)) (fun view (n) (len 5))")
		wantModel(t, a, want)
		wantModel(t, a, want)
		wantCounts(t, a, api.Count{})
		wantTree(t, a, "")
		wantPumped(t, a, 1, 0)
		wantCounts(t, a, api.Count{})
	}
}

func TestP7WhatCheckTellsComesFirst(t *testing.T) {
	for _, text := range []string{
		"", "(", "(fun init () 0)", three + strings.Repeat(" ", api.MaxText+1-len(three)), "(fun init () (len 5)", "(fun init () (len 5)) (fun init () 0)", "(fun init () (len x))", "(fun init () (call f))",
		"(fun init () (len 5)) (fun update (m n) n)", "(fun init (x) x) (fun update (m n) n) (fun view (n) n)", "(fun init () " + strings.Repeat("(list ", api.MaxDepth),
	} {
		a, err := stagehand.New(text)
		want, place := causeOf(t, text, stagehand.Check(text))
		got, at := causeOf(t, text, err)
		if a != nil || want == nil || got != want || at != place || errors.Is(err, api.ErrFault) {
			t.Errorf("P7: New(%.90q): an App: %v, %v, want %v at %d", text, a != nil, err, want, place)
		}
	}
	begun(t, three+strings.Repeat(" ", api.MaxText-len(three)))
}

func TestP7FaultsOfInit(t *testing.T) {
	zeros := func(many int) string { return strings.Repeat(" 0", many) + ")" }
	heavy := "(list" + strings.Repeat(" 'xxxxxxxxxxxxxxxxxxxx'", 28) // with these it weighs 589
	for init, right := range map[string]bool{
		"(len 5)": false, "(add 1 'a')": false, "(at (list) 0)": false, "(list (call bad 1))": false, "(if 0 (len 5) 1)": true,
		heavy + zeros(10): true, heavy + zeros(11): true, heavy + zeros(12): false, "(len " + heavy + zeros(12) + ")": false,
		taking(api.MaxSteps): true, taking(api.MaxSteps - 1): true, taking(api.MaxSteps + 1): false,
	} {
		a, err := stagehand.New(bulk + "(fun bad (x) (len x)) (fun init () " + init + ") (fun update (m n) n) (fun view (n) n)")
		if (a != nil) != right || (err == nil) != right || err != nil && !errors.Is(err, api.ErrFault) {
			t.Errorf("P7: New with init %.50s: an App: %v, %v, want it right: %v", init, a != nil, err, right)
		}
	}
}

func TestP8MessagesWaitInTheirOrder(t *testing.T) {
	a := collecting(t)
	send(t, a, "1", "'two'", "(3 ())", "-4")
	wantCounts(t, a, api.Count{Waiting: 4})
	wantModel(t, a, "()")
	wantPumped(t, a, 1, 1)
	wantModel(t, a, "(1)")
	wantPumped(t, a, 2, 2)
	wantModel(t, a, "(1 'two' (3 ()))")
	wantCounts(t, a, api.Count{Waiting: 1})
	send(t, a, "5")
	wantPumped(t, a, 9, 2)
	wantModel(t, a, "(1 'two' (3 ()) -4 5)")
	wantPumped(t, a, 9, 0)
	wantCounts(t, a, api.Count{})
}

func TestP8HowManyAreHandled(t *testing.T) {
	for most, want := range map[int]int{math.MinInt: 0, -1: 0, 0: 0, 1: 1, 2: 2, 3: 3, 4: 3, api.MaxQueue + 1: 3, math.MaxInt: 3} {
		a := collecting(t)
		send(t, a, "0", "0", "0")
		wantPumped(t, a, most, want)
		wantModel(t, a, row(want, "0"))
		wantCounts(t, a, api.Count{Waiting: 3 - want})
	}
}

func TestP8WhatIsTooManyIsDropped(t *testing.T) {
	for many := range api.MaxQueue + 4 {
		a := collecting(t)
		var kept []string
		for i := range many {
			send(t, a, strconv.Itoa(i))
			if i < api.MaxQueue {
				kept = append(kept, strconv.Itoa(i))
			}
		}
		dropped := many - len(kept)
		wantCounts(t, a, api.Count{Waiting: len(kept), Dropped: dropped})
		wantPumped(t, a, 100, len(kept))
		wantModel(t, a, "("+strings.Join(kept, " ")+")")
		wantCounts(t, a, api.Count{Dropped: dropped})
	}
}

func TestP8OneIsTakenAndAnotherMayWait(t *testing.T) {
	a := collecting(t)
	for range api.MaxQueue {
		send(t, a, "1")
	}
	send(t, a, "2")
	wantPumped(t, a, 1, 1)
	send(t, a, "3", "4")
	wantCounts(t, a, api.Count{Waiting: api.MaxQueue, Dropped: 2})
	wantPumped(t, a, api.MaxQueue, api.MaxQueue)
	wantModel(t, a, "("+strings.Repeat("1 ", api.MaxQueue)+"3)")
}

func TestP8WhatIsNoValue(t *testing.T) {
	a := collecting(t)
	wrong := []string{"", " ", "x", "(", ")", "01", "-0", "-", "1 ", " 1", "( 1)", "(1  2)", "'", "'a", "'\n'", "'é'", "'a'b", "1 2", "9223372036854775808", quoted(api.MaxWeight + 1), row(api.MaxWeight, "0")}
	for _, message := range wrong {
		if err := a.Send(message); !errors.Is(err, api.ErrFault) || errors.Is(err, api.ErrPath) {
			t.Errorf("P8: Send(%.60q): %v, want %v", message, err, api.ErrFault)
		}
	}
	wantCounts(t, a, api.Count{})
	for _, message := range []string{quoted(api.MaxWeight), row(api.MaxWeight-1, "0"), quoted(api.MaxWeight - 1), "9223372036854775807", "-9223372036854775808", "()", "''"} {
		b := showing(t, "")
		send(t, b, message)
		wantPumped(t, b, 1, 1)
		wantModel(t, b, message)
	}
	// it is told also if it would be dropped
	for range api.MaxQueue {
		send(t, a, "1")
	}
	for _, message := range wrong {
		if err := a.Send(message); !errors.Is(err, api.ErrFault) {
			t.Errorf("P8: Send(%.60q) to a full queue: %v, want %v", message, err, api.ErrFault)
		}
	}
	wantCounts(t, a, api.Count{Waiting: api.MaxQueue})
}

func TestP8FaultsOfUpdate(t *testing.T) {
	a := collecting(t)
	send(t, a, "1", "'bad'", "2", "'bad'", "'bad'")
	wantPumped(t, a, 2, 2)
	wantModel(t, a, "(1)")
	wantCounts(t, a, api.Count{Waiting: 3, Faults: 1})
	wantPumped(t, a, 9, 3)
	wantModel(t, a, "(1 2)")
	wantCounts(t, a, api.Count{Faults: 3})
	send(t, a, quoted(api.MaxWeight-3)) // the list, 1, 2 and this
	wantPumped(t, a, 1, 1)
	wantModel(t, a, "(1 2 "+quoted(api.MaxWeight-3)+")")
	send(t, a, "3", "''", "()")
	wantPumped(t, a, 9, 3)
	wantModel(t, a, "(1 2 "+quoted(api.MaxWeight-3)+")")
	wantCounts(t, a, api.Count{Faults: 6})
}

func TestP8EachUpdateBeginsWithNoSteps(t *testing.T) {
	for steps, faults := range map[int]int{api.MaxSteps - 1: 0, api.MaxSteps: 0, api.MaxSteps + 1: 3} {
		a := begun(t, bulk+"(fun init () 0) (fun update (m n) "+taking(steps)+") (fun view (n) n)")
		send(t, a, "1", "1", "1")
		wantPumped(t, a, 3, 3)
		wantCounts(t, a, api.Count{Faults: faults})
	}
}

func TestP8TheMessageComesAheadOfTheModel(t *testing.T) {
	a := begun(t, "(fun init () 'model') (fun update (m n) (list m n)) (fun view (n) n)")
	send(t, a, "'message'")
	wantPumped(t, a, 1, 1)
	wantModel(t, a, "('message' 'model')")
}
