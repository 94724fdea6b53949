package stagehand_test

import (
	"errors"
	"math"
	"strconv"
	"strings"
	"testing"

	"stagehand/api"
	"stagehand/stagehand"
)

const eventFunctions = "(fun wa (m) (list 'a' m)) (fun wb (m) (list 'b' m)) (fun inc (m) (add m 1)) (fun seven (m) 7) (fun same (x) x) (fun box (x) (list 'tag' 'wb' (list 'el' 'i' (list (list 'on' 'go' 'box')) (list x)))) (fun dup (m) (join m m)) (fun longer (m) (join m 'x'))"

// wantEvent asks how many messages wait more than ahead, and that nothing else is to be seen but what is counted.
func wantEvent(t *testing.T, a *stagehand.App, want int, name string, path ...int) {
	t.Helper()
	model, tree, waiting := a.Model(), a.Tree(), a.Counts().Waiting
	got, err := a.Event(path, name)
	if got != want || err != nil {
		t.Errorf("P12: Event(%v, %.30q): %d, %v, want %d", path, name, got, err, want)
	}
	wantModel(t, a, model)
	wantTree(t, a, tree)
	if more := a.Counts().Waiting - waiting; more != got {
		t.Errorf("P12: Event(%v, %.30q): %d, but %d wait more than ahead", path, name, got, more)
	}
}

// wantNoEvent asks for an error, and that nothing has changed.
func wantNoEvent(t *testing.T, a *stagehand.App, name string, path ...int) {
	t.Helper()
	counts, tree := a.Counts(), a.Tree()
	got, err := a.Event(path, name)
	if got != 0 || !errors.Is(err, api.ErrPath) || errors.Is(err, api.ErrFault) {
		t.Errorf("P12: Event(%.60v, %.30q): %d, %v, want %v", path, name, got, err, api.ErrPath)
	}
	wantTree(t, a, tree)
	wantCounts(t, a, counts)
}

// wantMessages asks that these messages wait, and no others, of an App whose model is the message that came last.
func wantMessages(t *testing.T, a *stagehand.App, want ...string) {
	t.Helper()
	for _, message := range want {
		wantPumped(t, a, 1, 1)
		if got := a.Model(); got != message {
			t.Errorf("P12: the next message is %.200s, want %.200s", got, message)
		}
	}
	wantPumped(t, a, 1, 0)
}

// heard is what comes of an event: with which messages, and how many faults.
type heard struct {
	name     string
	path     []int
	messages []string
	faults   int
}

// wantHeard shows a value, and asks what comes of events.
func wantHeard(t *testing.T, value string, all ...heard) {
	t.Helper()
	a := showing(t, eventFunctions)
	handle(t, a, value)
	wantFrame(t, a, nil)
	for _, one := range all {
		before := a.Counts()
		wantEvent(t, a, len(one.messages), one.name, one.path...)
		before.Waiting, before.Faults = len(one.messages), before.Faults+one.faults
		wantCounts(t, a, before)
		wantMessages(t, a, one.messages...)
	}
	if t.Failed() {
		t.Fatalf("P12: in %s", value)
	}
}

func at(path ...int) []int { return path }

func messages(written ...string) []string { return written }

func TestP12NoNodeAtThePath(t *testing.T) {
	a := showing(t, eventFunctions)
	for _, path := range [][]int{nil, {}, {0}, {-1}, {0, 0}} {
		wantNoEvent(t, a, "go", path...)
		wantNoEvent(t, a, "", path...)
	}
	wantUnshown(t, a, "()", 0)
	wantNoEvent(t, a, "go")
	wantShown(t, a, "('el' 'a' (('on' 'go' 1)) (1 ('tag' 'same' ('keyed' 'b' (('on' 'go' 2)) (('k' 2) ('j' ('lazy' 'same' 3)))))))", "<a#1>#2 '1'<b#3>#4 '2'#5 '3'</b></a>")
	for _, path := range [][]int{{2}, {-1}, {3}, {0, 0}, {0, -1}, {1, 2}, {1, -1}, {1, 0, 0}, {1, 1, 0}, {2, 0}, {-1, 0}, {math.MaxInt}, {math.MinInt}, {1, math.MaxInt}, {1, math.MinInt}, {1 << 32}, {1, 1 << 32}, make([]int, 1_000_000)} {
		wantNoEvent(t, a, "go", path...)
		wantNoEvent(t, a, "none", path...)
		wantNoEvent(t, a, strings.Repeat("x", 1_000_000), path...)
	}
	for _, path := range [][]int{nil, {}, {0}} {
		wantEvent(t, a, 1, "go", path...)
	}
	for _, path := range [][]int{{1}, {1, 0}, {1, 1}} {
		wantEvent(t, a, 2, "go", path...)
	}
}

func TestP12NamesOfNoHandler(t *testing.T) {
	a := showing(t, "")
	handle(t, a, "('el' 'a' (('go' 'tap') ('on' 'go' 1) ('on' 'on' 2)) ('go'))")
	wantFrame(t, a, nil)
	for _, name := range []string{"", "g", "goo", "GO", "Go", " go", "go ", "'go'", "tap", "a", "1", "\x00", "é", "go\n", strings.Repeat("go", 1_000_000)} {
		wantEvent(t, a, 0, name)
		wantEvent(t, a, 0, name, 0)
	}
	wantCounts(t, a, api.Count{Frames: 1})
	wantEvent(t, a, 1, "go")
	wantEvent(t, a, 1, "on")
	wantMessages(t, a, "1", "2")
}

func TestP12HandlersFromTheNodeUp(t *testing.T) {
	wantHeard(t, "'text'", heard{"go", nil, nil, 0})
	wantHeard(t, "('el' 'a' () ())", heard{"go", nil, nil, 0})
	wantHeard(t, "('el' 'a' (('on' 'go' 1) ('id' 'x') ('on' 'tap' 2) ('on' 'go' 3) ('on' 'go' 1)) (5))",
		heard{"go", nil, messages("1", "3", "1"), 0}, heard{"go", at(0), messages("1", "3", "1"), 0}, heard{"tap", nil, messages("2"), 0}, heard{"tap", at(0), messages("2"), 0}, heard{"id", nil, nil, 0})
	deep := "('el' 'a' (('on' 'go' 'a') ('on' 'up' 'u')) (0 ('keyed' 'b' (('on' 'go' 'p') ('on' 'go' 'q')) (('k' ('el' 'c' (('on' 'tap' 't')) ('x'))) ('j' ('el' 'd' (('on' 'go' 'd') ('on' 'tap' 's')) ()))))))"
	wantHeard(t, deep,
		heard{"go", nil, messages("'a'"), 0}, heard{"go", at(0), messages("'a'"), 0}, heard{"go", at(1), messages("'p'", "'q'", "'a'"), 0}, heard{"go", at(1, 0), messages("'p'", "'q'", "'a'"), 0}, heard{"go", at(1, 0, 0), messages("'p'", "'q'", "'a'"), 0}, heard{"go", at(1, 1), messages("'d'", "'p'", "'q'", "'a'"), 0},
		heard{"tap", nil, nil, 0}, heard{"tap", at(1), nil, 0}, heard{"tap", at(1, 0), messages("'t'"), 0}, heard{"tap", at(1, 0, 0), messages("'t'"), 0}, heard{"tap", at(1, 1), messages("'s'"), 0}, heard{"up", at(1, 0, 0), messages("'u'"), 0})
	// any value is a message
	wantHeard(t, "('el' 'a' (('on' 'go' 0) ('on' 'go' '') ('on' 'go' ()) ('on' 'go' (1 ('x' -2))) ('on' 'go' ('el' 'b' () ())) ('on' 'go' -9223372036854775808)) ())",
		heard{"go", nil, messages("0", "''", "()", "(1 ('x' -2))", "('el' 'b' () ())", "-9223372036854775808"), 0})
}

func TestP12Stops(t *testing.T) {
	for fourth, stops := range map[string]bool{"": false, " 0": false, " 1": true, " -1": true, " 2": true, " 9223372036854775807": true, " -9223372036854775808": true} {
		all := messages("'i'", "'b'", "'c'", "'d'", "'a'")
		if stops {
			all = all[:4]
		}
		for _, kind := range []string{"('el' 'b' @ (('el' 'c' (('on' 'go' 'i')) ())))", "('keyed' 'b' @ (('k' ('el' 'c' (('on' 'go' 'i')) ()))))"} {
			// the others of the same node are asked, whether they stand ahead of it or behind it
			for _, attributes := range []string{"(('on' 'go' 'b'@) ('on' 'go' 'c') ('on' 'go' 'd'))", "(('on' 'go' 'b' 0) ('on' 'go' 'c'@) ('on' 'go' 'd' 0))", "(('on' 'go' 'b') ('on' 'go' 'c') ('on' 'go' 'd'@))"} {
				inner := strings.Replace(kind, "@", strings.Replace(attributes, "@", fourth, 1), 1)
				wantHeard(t, "('el' 'a' (('on' 'go' 'a')) ("+inner+"))", heard{"go", at(0, 0), all, 0}, heard{"go", at(0), all[1:], 0}, heard{"go", nil, messages("'a'"), 0})
			}
		}
	}
	// one of another event does not stop this one
	wantHeard(t, "('el' 'a' (('on' 'go' 'a') ('on' 'tap' 'x')) (('el' 'b' (('on' 'go' 'b') ('on' 'tap' 'y' 1)) ('z'))))", heard{"go", at(0, 0), messages("'b'", "'a'"), 0}, heard{"tap", at(0, 0), messages("'y'"), 0}, heard{"tap", nil, messages("'x'"), 0})
	// beside the way, or farther down, it stops nothing
	wantHeard(t, "('el' 'a' (('on' 'go' 'a')) (('el' 'b' (('on' 'go' 'b' 1)) ('z')) ('el' 'c' (('on' 'go' 'c')) (('el' 'd' (('on' 'go' 'd' 1)) ())))))", heard{"go", at(1), messages("'c'", "'a'"), 0}, heard{"go", at(1, 0), messages("'d'"), 0}, heard{"go", nil, messages("'a'"), 0})
	// it stops also if its message is a fault
	wantHeard(t, "('el' 'a' (('on' 'go' 'a')) (('tag' 'inc' ('el' 'b' (('on' 'go' 'b' 1) ('on' 'go' 2)) ()))))", heard{"go", at(0), messages("3"), 1}, heard{"go", nil, messages("'a'"), 0})
	// the topmost one may stop, too
	wantHeard(t, "('el' 'a' (('on' 'go' 'a' 1)) (5))", heard{"go", at(0), messages("'a'"), 0}, heard{"go", nil, messages("'a'"), 0})
}

func TestP12Tags(t *testing.T) {
	go5 := "('el' 'b' (('on' 'go' 5)) ('x'))"
	for value, want := range map[string][]string{
		go5:                                     {"5"},
		"('tag' 'wa' " + go5 + ")":              {"('a' 5)"},
		"('tag' 'same' " + go5 + ")":            {"5"},
		"('tag' 'wa' ('tag' 'wb' " + go5 + "))": {"('a' ('b' 5))"},
		"('tag' 'wb' ('tag' 'wa' " + go5 + "))": {"('b' ('a' 5))"},
		"('tag' 'wa' ('tag' 'wa' ('tag' 'inc' " + go5 + ")))":    {"('a' ('a' 6))"},
		"('tag' 'seven' ('tag' 'wa' " + go5 + "))":               {"7"},
		"('tag' 'inc' ('tag' 'seven' ('tag' 'wa' " + go5 + ")))": {"8"},
		// through lazy nodes, from around them and from within
		"('lazy' 'same' ('tag' 'wa' " + go5 + "))":                                              {"('a' 5)"},
		"('tag' 'wa' ('lazy' 'same' ('tag' 'wb' " + go5 + ")))":                                 {"('a' ('b' 5))"},
		"('tag' 'wa' ('lazy' 'same' ('lazy' 'same' ('tag' 'wb' ('lazy' 'same' " + go5 + ")))))": {"('a' ('b' 5))"},
		// functions may tag with any value, one that looks like a node too
		"('tag' 'box' " + go5 + ")": {"('tag' 'wb' ('el' 'i' (('on' 'go' 'box')) (5)))"},
	} {
		wantHeard(t, value, heard{"go", nil, want, 0}, heard{"go", at(0), want, 0}, heard{"tap", at(0), nil, 0})
	}
}

func TestP12TagsOfEachNodeOnTheWay(t *testing.T) {
	inner := "('tag' 'wb' ('keyed' 'b' (('on' 'go' 2) ('on' 'tap' 'x')) (('k' ('tag' 'inc' ('el' 'c' (('on' 'go' 3)) ('y')))) ('j' ('el' 'd' (('on' 'go' 9)) ())))))"
	wantHeard(t, "('tag' 'wa' ('el' 'a' (('on' 'go' 1)) ("+inner+" ('el' 'e' (('on' 'go' 5)) ()))))",
		heard{"go", nil, messages("('a' 1)"), 0},
		heard{"go", at(0), messages("('a' ('b' 2))", "('a' 1)"), 0},
		heard{"go", at(0, 0), messages("('a' ('b' 4))", "('a' ('b' 2))", "('a' 1)"), 0},
		heard{"go", at(0, 0, 0), messages("('a' ('b' 4))", "('a' ('b' 2))", "('a' 1)"), 0},
		heard{"go", at(0, 1), messages("('a' ('b' 9))", "('a' ('b' 2))", "('a' 1)"), 0},
		heard{"go", at(1), messages("5", "1"), 0}.tagged("('a' @)"),
		heard{"tap", at(0, 1), messages("('a' ('b' 'x'))"), 0})
	// a tag around a node tags what is in it, but not what is around it or beside it
	wantHeard(t, "('el' 'a' (('on' 'go' 1)) (('tag' 'wa' 'x') ('tag' 'wb' ('el' 'b' () (('el' 'c' (('on' 'go' 2)) ()))))))",
		heard{"go", at(0), messages("1"), 0}, heard{"go", at(1), messages("1"), 0}, heard{"go", at(1, 0), messages("('b' 2)", "1"), 0})
	// what is handed to a lazy node is tagged where that shows it
	wantHeard(t, "('tag' 'wa' ('lazy' 'box' ('el' 'c' (('on' 'go' 'in')) ())))",
		heard{"go", nil, messages("('a' ('b' 'box'))"), 0}, heard{"go", at(0), messages("('a' ('b' 'in'))", "('a' ('b' 'box'))"), 0})
}

// tagged is the same with each message in another one.
func (h heard) tagged(around string) heard {
	var all []string
	for _, message := range h.messages {
		all = append(all, strings.Replace(around, "@", message, 1))
	}
	return heard{h.name, h.path, all, h.faults}
}

func TestP12FaultsOfTags(t *testing.T) {
	const handlers = "('el' 'b' (('on' 'go' 1) ('on' 'go' 'x') ('on' 'go' 3) ('on' 'go' ())) ())"
	wantHeard(t, "('tag' 'inc' "+handlers+")", heard{"go", nil, messages("2", "4"), 2}, heard{"go", nil, messages("2", "4"), 2}, heard{"none", nil, nil, 0})
	// one fault for each handler, however many tags come behind it
	wantHeard(t, "('tag' 'inc' ('tag' 'inc' ('tag' 'inc' "+handlers+")))", heard{"go", nil, messages("4", "6"), 2})
	wantHeard(t, "('tag' 'seven' ('tag' 'inc' "+handlers+"))", heard{"go", nil, messages("7", "7"), 2})
	wantHeard(t, "('tag' 'inc' ('tag' 'wa' "+handlers+"))", heard{"go", nil, nil, 4})
	wantHeard(t, "('tag' 'inc' ('tag' 'seven' "+handlers+"))", heard{"go", nil, messages("8", "8", "8", "8"), 0})
	// those of other nodes are asked all the same
	wantHeard(t, "('tag' 'inc' ('el' 'a' (('on' 'go' 'a') ('on' 'go' 5)) (('tag' 'wa' "+handlers+") ('tag' 'seven' "+handlers+"))))",
		heard{"go", at(0), messages("6"), 5}, heard{"go", at(1), messages("8", "8", "8", "8", "6"), 1}, heard{"go", nil, messages("6"), 1})
}

func TestP12EachTagBeginsWithNoSteps(t *testing.T) {
	for steps, right := range map[int]bool{api.MaxSteps - 1: true, api.MaxSteps: true, api.MaxSteps + 1: false} {
		a := showing(t, bulk+"(fun slow (m) "+taking(steps)+")")
		wantShown(t, a, "('tag' 'slow' ('tag' 'slow' ('el' 'b' (('on' 'go' 1) ('on' 'go' 2)) ())))", "<b#1></b>")
		if right {
			wantEvent(t, a, 2, "go")
			wantMessages(t, a, "98", "98")
			wantCounts(t, a, api.Count{Frames: 1})
		} else {
			wantEvent(t, a, 0, "go")
			wantCounts(t, a, api.Count{Frames: 1, Faults: 2})
		}
	}
}

func TestP12WeightOfTaggedMessages(t *testing.T) {
	longer := func(times int, text string) string {
		return strings.Repeat("('tag' 'longer' ", times) + "('tag' 'dup' ('el' 'b' (('on' 'go' " + text + ")) ()))" + strings.Repeat(")", times)
	}
	const half = (api.MaxWeight - 2) / 2 // bytes; twice, with 1 for the text, and 1 more byte
	wantHeard(t, longer(0, quoted(half+1)), heard{"go", nil, messages(quoted(api.MaxWeight - 1)), 0})
	wantHeard(t, longer(1, quoted(half+1)), heard{"go", nil, messages(quoted(api.MaxWeight)), 0})
	wantHeard(t, longer(2, quoted(half+1)), heard{"go", nil, nil, 1})
	wantHeard(t, longer(0, quoted(half+2)), heard{"go", nil, nil, 1})
}

// TestP12HowManyMayWait goes through all edges: so many wait already, so many more come, and some are faults.
func TestP12HowManyMayWait(t *testing.T) {
	for waiting := range api.MaxQueue + 1 {
		for more := range api.MaxQueue + 3 {
			for _, faults := range []int{0, 1, api.MaxQueue + 1} {
				a := showing(t, eventFunctions)
				wantShown(t, a, "('tag' 'inc' ('el' 'b' ("+strings.Repeat("('on' 'go' 'x') ", faults)+strings.Repeat("('on' 'go' 7) ", more)+"('on' 'tap' 1)) ()))", "<b#1></b>")
				for i := range waiting {
					send(t, a, strconv.Itoa(i))
				}
				fits := waiting+more <= api.MaxQueue
				want := api.Count{Waiting: waiting + more, Faults: faults, Frames: 1}
				if !fits {
					want.Waiting, want.Dropped = waiting, 1
				}
				wantEvent(t, a, want.Waiting-waiting, "go")
				wantCounts(t, a, want)
				var all []string
				for i := range want.Waiting {
					if i < waiting {
						all = append(all, strconv.Itoa(i))
					} else {
						all = append(all, "8")
					}
				}
				wantMessages(t, a, all...)
			}
		}
	}
}

func TestP12MessagesWaitBehindTheOthers(t *testing.T) {
	a := showing(t, "")
	wantShown(t, a, "('el' 'b' (('on' 'go' 1) ('on' 'go' 2) ('on' 'tap' 3)) ())", "<b#1></b>")
	send(t, a, "'sent'")
	wantEvent(t, a, 2, "go")
	wantEvent(t, a, 1, "tap")
	send(t, a, "'more'")
	wantEvent(t, a, 2, "go")
	wantMessages(t, a, "'sent'", "1", "2", "3", "'more'", "1", "2")
	// where all but one place is taken, two are dropped, but one may wait
	for range api.MaxQueue - 1 {
		send(t, a, "0")
	}
	wantEvent(t, a, 0, "go")
	wantEvent(t, a, 1, "tap")
	wantEvent(t, a, 0, "tap")
	wantEvent(t, a, 0, "none")
	wantCounts(t, a, api.Count{Waiting: api.MaxQueue, Dropped: 2, Frames: 1})
	wantPumped(t, a, 2, 2)
	wantEvent(t, a, 2, "go")
	wantCounts(t, a, api.Count{Waiting: api.MaxQueue, Dropped: 2, Frames: 1})
}

// TestP12WhatIsShownCounts: not what the model would show by now.
func TestP12WhatIsShownCounts(t *testing.T) {
	a := showing(t, eventFunctions)
	wantShown(t, a, "('el' 'b' (('on' 'go' 'old')) ())", "<b#1></b>")
	handle(t, a, "('el' 'b' (('on' 'go' 'new')) (5))")
	wantEvent(t, a, 1, "go")
	wantNoEvent(t, a, "go", 0)
	wantMessages(t, a, "'old'")
	// the same node, with other handlers
	wantShown(t, a, "('el' 'b' (('on' 'go' 'new') ('on' 'go' 'newer')) (5))", "<b#1>#2 '5'</b>")
	wantEvent(t, a, 2, "go", 0)
	wantMessages(t, a, "'new'", "'newer'")
	wantUnshown(t, a, "('el' 'b' (('on' 'go' 'never')) (()))", 0)
	wantEvent(t, a, 2, "go")
	wantMessages(t, a, "'new'", "'newer'")
	wantShown(t, a, "('tag' 'wa' ('keyed' 'b' (('on' 'go' 'last')) ()))", "<b#3></b>")
	wantEvent(t, a, 1, "go")
	wantMessages(t, a, "('a' 'last')")
}

func TestP12AnEventIsNoMessageThatWasHandled(t *testing.T) {
	a := showing(t, eventFunctions)
	wantShown(t, a, "('tag' 'inc' ('el' 'b' (('on' 'go' 1) ('on' 'go' 'x')) ()))", "<b#1></b>")
	wantEvent(t, a, 1, "go")
	wantFrame(t, a, nil)
	wantCounts(t, a, api.Count{Waiting: 1, Faults: 1, Frames: 1})
	wantPumped(t, a, 1, 1)
	wantFrame(t, a, nil)
	wantTree(t, a, "#2 '2'")
	wantCounts(t, a, api.Count{Faults: 1, Frames: 2})
}

// TestP12OtherTagsAroundALazyNode: it is what it was, but what tags it is not.
func TestP12OtherTagsAroundALazyNode(t *testing.T) {
	a := showing(t, eventFunctions)
	const lazy = "('lazy' 'box' ('el' 'c' (('on' 'go' 'in')) ()))"
	for _, one := range []struct {
		value    string
		lazies   int
		messages []string
	}{
		{"('tag' 'wa' " + lazy + ")", 1, messages("('a' ('b' 'in'))", "('a' ('b' 'box'))")},
		{"('tag' 'wb' " + lazy + ")", 1, messages("('b' ('b' 'in'))", "('b' ('b' 'box'))")},
		{"('tag' 'seven' " + lazy + ")", 1, messages("7", "7")},
		{lazy, 2, messages("('b' 'in')", "('b' 'box')")},
		{lazy, 2, messages("('b' 'in')", "('b' 'box')")},
	} {
		wantShown(t, a, one.value, "<i#1><c#2></c></i>")
		wantEvent(t, a, 2, "go", 0)
		wantMessages(t, a, one.messages...)
		if got := a.Counts().Lazies; got != one.lazies {
			t.Errorf("P9: %d lazy nodes were reckoned, want %d", got, one.lazies)
		}
	}
}

// TestP13Counts goes through all that is counted, and what is not.
func TestP13Counts(t *testing.T) {
	a := showing(t, eventFunctions)
	want := api.Count{}
	next := func(more api.Count) {
		t.Helper()
		want = api.Count{Waiting: want.Waiting + more.Waiting, Faults: want.Faults + more.Faults, Dropped: want.Dropped + more.Dropped, Frames: want.Frames + more.Frames, Lazies: want.Lazies + more.Lazies}
		wantCounts(t, a, want)
		wantCounts(t, a, want)
	}
	wantNoEvent(t, a, "go")
	next(api.Count{})
	send(t, a, "('tag' 'inc' ('el' 'a' (('on' 'go' 1) ('on' 'go' 'x')) (('lazy' 'same' 1) ('lazy' 'same' 1))))")
	next(api.Count{Waiting: 1})
	wantPumped(t, a, 1, 1)
	next(api.Count{Waiting: -1})
	wantFrame(t, a, nil)
	next(api.Count{Frames: 1, Lazies: 2})
	wantEvent(t, a, 1, "go")
	next(api.Count{Waiting: 1, Faults: 1})
	wantNoEvent(t, a, "go", 2)
	wantUnscribbled(t, a, api.ErrFault, "'", 0)
	wantUnscribbled(t, a, api.ErrPath, "", 2)
	if err := a.Send("x"); !errors.Is(err, api.ErrFault) {
		t.Errorf("P8: Send: %v", err)
	}
	next(api.Count{})
	for range api.MaxQueue - 1 {
		send(t, a, "'bad'")
	}
	next(api.Count{Waiting: api.MaxQueue - 1})
	wantEvent(t, a, 0, "go", 1)
	next(api.Count{Faults: 1, Dropped: 1})
	send(t, a, "'bad'")
	next(api.Count{Dropped: 1})
	wantPumped(t, a, 100, api.MaxQueue)
	next(api.Count{Waiting: -api.MaxQueue, Faults: api.MaxQueue - 1})
	wantFrame(t, a, nil)
	next(api.Count{Frames: 1})
	wantUnshown(t, a, "('el' 'a' () (('lazy' 'same' 1) ('lazy' 'inc' 'x')))", 2)
	next(api.Count{Faults: 1, Lazies: 2})
}

func TestTheExampleOfTheCounterWithItsEvent(t *testing.T) {
	a := begun(t, counter)
	wantNoEvent(t, a, "up")
	wantFrame(t, a, nil)
	wantTree(t, a, "<p#1 id='x'>#2 '0'#3 'other'</p>")
	wantEvent(t, a, 1, "up")
	wantPumped(t, a, 5, 1)
	wantModel(t, a, "1")
	wantFrame(t, a, nil)
	wantTree(t, a, "<p#1 id='x'>#2 '1'#3 'other'</p>")
	wantCounts(t, a, api.Count{Frames: 2, Lazies: 1})
	for _, path := range [][]int{{0}, {1}} {
		wantEvent(t, a, 1, "up", path...)
	}
	wantPumped(t, a, 5, 2)
	wantFrame(t, a, nil)
	wantTree(t, a, "<p#1 id='x'>#2 '3'#3 'three'</p>")
	wantCounts(t, a, api.Count{Frames: 3, Lazies: 2})
}
