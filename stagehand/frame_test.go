package stagehand_test

import (
	"errors"
	"strings"
	"testing"

	"stagehand/api"
	"stagehand/stagehand"
)

func wantTree(t *testing.T, a *stagehand.App, want string) {
	t.Helper()
	if got := a.Tree(); got != want {
		t.Errorf("P11: Tree(): %s, want %s", got, want)
	}
}

func wantFrame(t *testing.T, a *stagehand.App, want error) {
	t.Helper()
	if err := a.Frame(); !errors.Is(err, want) || errors.Is(err, api.ErrPath) {
		t.Errorf("P9: Frame(): %v, want %v", err, want)
	}
}

func handle(t *testing.T, a *stagehand.App, message string) {
	t.Helper()
	send(t, a, message)
	wantPumped(t, a, 1, 1)
}

// wantShown handles a message, and asks for a frame that shows this.
func wantShown(t *testing.T, a *stagehand.App, message, tree string) {
	t.Helper()
	before := a.Counts()
	handle(t, a, message)
	wantFrame(t, a, nil)
	wantTree(t, a, tree)
	before.Frames++
	before.Lazies = a.Counts().Lazies
	wantCounts(t, a, before)
}

// wantUnshown handles a message, and asks for a frame that is a fault, after so many lazy nodes, and leaves all as it was.
func wantUnshown(t *testing.T, a *stagehand.App, message string, lazies int) {
	t.Helper()
	before, tree := a.Counts(), a.Tree()
	handle(t, a, message)
	if err := a.Frame(); !errors.Is(err, api.ErrFault) || errors.Is(err, api.ErrPath) {
		t.Errorf("P9: Frame() of %.100s: %v, want %v", message, err, api.ErrFault)
	}
	before.Faults++
	before.Lazies += lazies
	if got := a.Counts(); got != before || a.Tree() != tree {
		t.Errorf("P9: a fault of %.100s: %+v, want %+v; shown %s, want %s", message, got, before, a.Tree(), tree)
	}
}

func TestP9NothingIfNothingWasHandled(t *testing.T) {
	a := showing(t, "")
	wantFrame(t, a, nil)
	wantTree(t, a, "#1 '0'")
	wantCounts(t, a, api.Count{Frames: 1})
	wantFrame(t, a, nil)
	send(t, a, "5")
	wantFrame(t, a, nil) // it waits, but was not handled
	wantPumped(t, a, 0, 0)
	wantFrame(t, a, nil)
	wantTree(t, a, "#1 '0'")
	wantCounts(t, a, api.Count{Waiting: 1, Frames: 1})
	wantPumped(t, a, 1, 1)
	wantTree(t, a, "#1 '0'")
	wantFrame(t, a, nil)
	wantTree(t, a, "#1 '5'")
	wantCounts(t, a, api.Count{Frames: 2})
	wantFrame(t, a, nil)
	wantCounts(t, a, api.Count{Frames: 2})
}

func TestP9HandledWithAFaultIsHandled(t *testing.T) {
	a := showing(t, "")
	wantFrame(t, a, nil)
	handle(t, a, "'bad'")
	wantFrame(t, a, nil)
	wantTree(t, a, "#1 '0'")
	wantCounts(t, a, api.Count{Faults: 1, Frames: 2})
	wantFrame(t, a, nil)
	wantCounts(t, a, api.Count{Faults: 1, Frames: 2})
}

func TestP9OneFrameForManyMessages(t *testing.T) {
	a := showing(t, "")
	send(t, a, "1", "2", "3")
	wantPumped(t, a, 3, 3)
	wantFrame(t, a, nil)
	wantTree(t, a, "#1 '3'")
	wantCounts(t, a, api.Count{Frames: 1})
}

func TestP9AFaultWhereSomethingIsShown(t *testing.T) {
	a := showing(t, "")
	wantFrame(t, a, nil)
	wantUnshown(t, a, "()", 0)
	wantModel(t, a, "()")
	// nothing was handled since that Frame, though it was a fault
	wantFrame(t, a, nil)
	wantTree(t, a, "#1 '0'")
	wantCounts(t, a, api.Count{Faults: 1, Frames: 1})
	wantShown(t, a, "'x'", "#1 'x'")
}

func TestP9AFaultWhereNothingIsShown(t *testing.T) {
	for _, init := range []string{"'x'", "(list)"} {
		a := begun(t, "(fun init () "+init+") (fun update (m n) m) (fun view (n) (if (eq n 'x') (add n 1) n))")
		for i := range 3 {
			wantFrame(t, a, api.ErrFault)
			wantTree(t, a, "")
			wantCounts(t, a, api.Count{Faults: i + 1})
		}
		wantShown(t, a, "5", "#1 '5'")
	}
}

func TestP9FaultsOfView(t *testing.T) {
	for view, right := range map[string]bool{
		"(len 5)": false, "(at n 0)": false, "(add n 'x')": false, "(add n 1)": true,
		taking(api.MaxSteps - 1): true, taking(api.MaxSteps): true, taking(api.MaxSteps + 1): false,
	} {
		a := begun(t, bulk+"(fun init () 0) (fun update (m n) m) (fun view (n) "+view+")")
		err := a.Frame()
		if (err == nil) != right || (a.Tree() != "") != right || err != nil && !errors.Is(err, api.ErrFault) {
			t.Errorf("P9: Frame() with view %.50s: %v, %s", view, err, a.Tree())
		}
	}
	a := begun(t, "(fun init () 0) (fun update (m n) m) (fun view (n) (join n '0123456789'))")
	wantShown(t, a, quoted(api.MaxWeight-10), "#1 '"+strings.Repeat("x", api.MaxWeight-11)+"0123456789'")
	wantUnshown(t, a, quoted(api.MaxWeight-9), 0)
}

// TestP9EachReckoningBeginsWithNoSteps: view and two lazy nodes, all of them with as many steps as may be.
func TestP9EachReckoningBeginsWithNoSteps(t *testing.T) {
	for steps, right := range map[int]bool{api.MaxSteps - 1: true, api.MaxSteps: true, api.MaxSteps + 1: false} {
		a := begun(t, bulk+"(fun slow (x) "+taking(steps)+") (fun init () 0) (fun update (m n) m) (fun view (n) (let b "+taking(api.MaxSteps-16)+" (list 'el' 'p' (list) (list (list 'lazy' 'slow' 1) (list 'lazy' 'slow' 2)))))")
		err := a.Frame()
		if right {
			wantTree(t, a, "<p#1>#2 '98'#3 '98'</p>")
			wantCounts(t, a, api.Count{Frames: 1, Lazies: 2})
		} else {
			wantTree(t, a, "")
			wantCounts(t, a, api.Count{Faults: 1, Lazies: 1})
		}
		if (err == nil) != right {
			t.Errorf("P9: lazy nodes of %d steps: %v", steps, err)
		}
	}
}

func TestP10FramesAreCounted(t *testing.T) {
	a := showing(t, "")
	for i := range 5 {
		handle(t, a, "0") // the model stays the same, but view is reckoned
		wantFrame(t, a, nil)
		wantFrame(t, a, nil)
		wantCounts(t, a, api.Count{Frames: i + 1})
	}
	wantUnshown(t, a, "()", 0)
	wantFrame(t, a, nil)
	wantCounts(t, a, api.Count{Frames: 5, Faults: 1})
	wantShown(t, a, "1", "#1 '1'")
	wantCounts(t, a, api.Count{Frames: 6, Faults: 1})
}

func TestP9WhatIsNoNode(t *testing.T) {
	a := showing(t, "(fun same (x) x) (fun bad (x) (len 5)) (fun two (x y) y) (fun none () 0)")
	wantFrame(t, a, nil)
	wrong := []string{
		"()", "(1)", "(())", "('')", "('p')", "('EL' 'b' () ())", "('text' 'a')", "(1 'el' 'b' () ())", "(('el' 'b' () ()))",
		"('el')", "('el' 'b')", "('el' 'b' ())", "('el' 'b' () () ())", "('el' 5 () ())", "('el' () () ())", "('el' 'b' 5 ())", "('el' 'b' '' ())", "('el' 'b' () 5)", "('el' 'b' () 'x')",
		"('keyed')", "('keyed' 'b' ())", "('keyed' 'b' () () ())", "('keyed' 5 () ())", "('keyed' '' () ())", "('keyed' 'b' 5 ())", "('keyed' 'b' () 5)", "('keyed' 'b' () (5))", "('keyed' 'b' () ('a'))", "('keyed' 'b' () (()))", "('keyed' 'b' () (('a')))", "('keyed' 'b' () (('a' 1 2)))", "('keyed' 'b' () ((1 1)))", "('keyed' 'b' () ((() 1)))",
		"('keyed' 'b' () (('a' 1) ('a' 2)))", "('keyed' 'b' () (('' 1) ('b' 2) ('' 1)))", "('keyed' 'b' () (('a' ())))", "('keyed' 'b' (('on')) (('a' 1)))",
		"('tag')", "('tag' 'same')", "('tag' 'same' 1 2)", "('tag' 5 1)", "('tag' () 1)", "('tag' 'no' 1)", "('tag' '' 1)", "('tag' 'two' 1)", "('tag' 'none' 1)", "('tag' 'same' ())", "('tag' 'len' 1)",
		"('lazy')", "('lazy' 5)", "('lazy' ())", "('lazy' 'no')", "('lazy' '')", "('lazy' 'same')", "('lazy' 'same' 1 2)", "('lazy' 'none' 1)", "('lazy' 'two' 1)", "('lazy' 'list')",
	}
	for _, message := range wrong {
		wantUnshown(t, a, message, 0)
		wantUnshown(t, a, "('el' 'b' () ('ahead' "+message+"))", 0)
		wantUnshown(t, a, "('el' 'b' () (('el' 'c' () ()) ('el' 'c' () ("+message+" 'behind'))))", 0)
		wantUnshown(t, a, "('keyed' 'b' () (('a' 'ahead') ('b' "+message+")))", 0)
		wantUnshown(t, a, "('tag' 'same' "+message+")", 0)
		wantUnshown(t, a, "('lazy' 'same' "+message+")", 1)
	}
	wantShown(t, a, "0", "#1 '0'")
}

func TestP9WordsOfElements(t *testing.T) {
	a := showing(t, "")
	wantFrame(t, a, nil)
	wordy := []string{"('el' '@' () ())", "('keyed' '@' () ())", "('el' 'b' (('@' 'x')) ())", "('keyed' 'b' (('@' 'x')) ())", "('el' 'b' (('on' '@' 1)) ())", "('keyed' 'b' (('on' '@' 1 0)) ())", "('el' 'b' (('on' '@' 1 2)) ())"}
	for _, marked := range wordy {
		for _, word := range []string{"a", "z", "ab", "abcdefg", "abcdefgh", "el", "lazy", "fun", "list", "once", "o"} {
			handle(t, a, strings.Replace(marked, "@", word, 1))
			wantFrame(t, a, nil)
		}
		for _, word := range []string{"", "abcdefghi", "A", "aB", "a b", " ", "a ", " a", "a1", "1", "-", "a-b", "`", "{", "(", "()"} {
			wantUnshown(t, a, strings.Replace(marked, "@", word, 1), 0)
		}
	}
	// on is a tag and an event like others
	for _, marked := range []string{"('el' 'on' () ())", "('el' 'b' (('on' 'on' 1)) ())"} {
		handle(t, a, marked)
		wantFrame(t, a, nil)
	}
}

func TestP9Attributes(t *testing.T) {
	a := showing(t, "")
	wantFrame(t, a, nil)
	for _, kind := range []string{"el", "keyed"} {
		for _, wrong := range []string{
			"5", "'id'", "()", "('id')", "('id' 5)", "('id' ())", "('id' 'x' 'y')", "(5 'x')", "(() 'x')", "('on' 'x')", "('on')", "('on' 5 1)", "('on' () 1)", "('on' 'go')", "('on' 'go' 1 'x')", "('on' 'go' 1 ())", "('on' 'go' 1 2 3)", "('id' 'on' 1)", "('id' 'go' 1 2)",
		} {
			for _, list := range []string{"(@)", "(('a' 'b') @)", "(@ ('a' 'b'))", "(('on' 'go' 1) @ ('a' 'b'))"} {
				wantUnshown(t, a, "('"+kind+"' 'b' "+strings.Replace(list, "@", wrong, 1)+" ())", 0)
			}
		}
		for _, right := range []string{"('id' '')", "('id' 'x y')", "('on' 'go' 0)", "('on' 'go' ())", "('on' 'go' (1 'a') 0)", "('on' 'go' '' 1)", "('on' 'go' 1 -5)", "('on' 'go' ('el') 9223372036854775807)"} {
			handle(t, a, "('"+kind+"' 'b' (('a' 'b') "+right+" "+right+") ())")
			wantFrame(t, a, nil)
		}
	}
}

// TestP9HowManyNodes asks of each value how many nodes it has: with as many beside it as may be it is shown, with one more it is a fault.
func TestP9HowManyNodes(t *testing.T) {
	functions := "(fun same (x) x) (fun pair (x y) (list 'el' 'i' (list) (list x y))) (fun deep (x) (list 'tag' 'same' (list 'lazy' 'same' (list 'lazy' 'same' x))))"
	for one, nodes := range map[string]int{
		"'x'": 1, "('el' 'b' () ())": 1, "('el' 'b' (('id' 'x') ('on' 'go' 1)) (1 2))": 3, "('keyed' 'b' () (('a' 1) ('b' ('el' 'c' () ()))))": 3,
		"('tag' 'same' 1)": 2, "('tag' 'same' ('tag' 'same' ('el' 'b' () (1))))": 4, "('lazy' 'same' 1)": 2, "('lazy' 'pair' 1 2)": 4, "('lazy' 'deep' 1)": 5, "('lazy' 'deep' ('lazy' 'pair' 1 ('tag' 'same' 1)))": 9,
	} {
		for _, ahead := range []bool{true, false} {
			value := func(others int) string {
				beside := strings.Repeat("0 ", others)
				if ahead {
					return "('el' 'a' () (" + one + " " + strings.TrimSuffix(beside, " ") + "))"
				}
				return "('el' 'a' () (" + beside + one + "))"
			}
			others := api.MaxNodes - 1 - nodes
			a := showing(t, functions)
			wantFrame(t, a, nil)
			handle(t, a, value(others+1))
			wantFrame(t, a, api.ErrFault)
			wantTree(t, a, "#1 '0'")
			for _, fewer := range []int{1, 0, 0} { // the last time with lazy nodes that are not reckoned anew
				handle(t, a, value(others-fewer))
				wantFrame(t, a, nil)
			}
			tree := a.Tree()
			handle(t, a, value(others+1))
			wantFrame(t, a, api.ErrFault)
			wantTree(t, a, tree)
		}
	}
}

func TestP9ChainsOfNodes(t *testing.T) {
	a := showing(t, "(fun same (x) x) (fun loop () (list 'lazy' 'loop')) (fun turn (x) (list 'lazy' 'turn' (add x 1)))")
	wantFrame(t, a, nil)
	chain := func(many int, head string) string {
		return strings.Repeat(head, many) + "'x'" + strings.Repeat(")", many)
	}
	for _, head := range []string{"('tag' 'same' ", "('lazy' 'same' "} {
		wantShown(t, a, chain(30, head), "#1 'x'")
	}
	handle(t, a, "('el' 'a' () (0 0 0 0 0 "+chain(20, "('tag' 'same' ")+"))")
	wantFrame(t, a, nil)
	// without an end: the hundred-and-first is a fault, and not reckoned
	wantUnshown(t, a, "('lazy' 'loop')", api.MaxNodes)
	wantUnshown(t, a, "('lazy' 'turn' 0)", api.MaxNodes)
	wantUnshown(t, a, "('el' 'a' () (0 0 0 ('lazy' 'loop')))", api.MaxNodes-4)
}
