package stagehand_test

import (
	"errors"
	"math"
	"slices"
	"strconv"
	"strings"
	"sync"
	"testing"
	"unsafe"

	"stagehand/api"
	"stagehand/stagehand"
)

func TestP1NewEndsAtAnyText(t *testing.T) {
	for i := range counter {
		for _, text := range []string{counter[:i], counter[i:], counter[:i] + counter[i+1:], counter[:i] + "'" + counter[i:], counter[:i] + "0" + counter[i+1:]} {
			a, err := stagehand.New(text)
			if want := stagehand.Check(text); want != nil {
				cause, place := causeOf(t, text, want)
				if got, at := causeOf(t, text, err); a != nil || got != cause || at != place {
					t.Errorf("P7: New(%.90q): %v, want %v", text, err, want)
				}
				continue
			}
			if (a == nil) != errors.Is(err, api.ErrFault) {
				t.Errorf("P1: New(%.90q): an App: %v, %v", text, a != nil, err)
			}
			if a != nil {
				goThrough(t, a)
			}
		}
	}
}

// goThrough calls all that an App has, with much that is out of the way.
func goThrough(t *testing.T, a *stagehand.App) {
	t.Helper()
	for _, message := range []string{"1", "'a'", "()", "((1 'b'))", "-9223372036854775808"} {
		if err := a.Send(message); err != nil {
			t.Errorf("P8: Send(%q): %v", message, err)
		}
		a.Pump(1)
		if err := a.Frame(); err != nil && !errors.Is(err, api.ErrFault) {
			t.Errorf("P9: Frame(): %v", err)
		}
		for _, path := range [][]int{nil, {0}, {-1, 0}, {math.MaxInt}} {
			if err := a.Scribble(path, message); err != nil && !errors.Is(err, api.ErrPath) && !errors.Is(err, api.ErrFault) {
				t.Errorf("P11: Scribble(%v): %v", path, err)
			}
			for _, name := range []string{"up", "", message} {
				if more, err := a.Event(path, name); err != nil && (more != 0 || !errors.Is(err, api.ErrPath)) {
					t.Errorf("P12: Event(%v, %q): %d, %v", path, name, more, err)
				}
			}
		}
		a.Tree()
		a.Model()
		a.Counts()
	}
}

func TestP1AnyMessage(t *testing.T) {
	const written = "('el' 'a' (('id' 'x') ('on' 'go' 1 0)) (1 ('tag' 'same' ('lazy' 'same' ('keyed' 'b' () (('k' 2)))))))"
	a := showing(t, "(fun same (x) x)")
	for i := range written {
		for _, with := range []string{"", "'", "(", ")", " ", "0", "-1", "a", "\x00", "'' ", "() "} {
			if err := a.Send(written[:i] + with + written[i+1:]); err != nil && !errors.Is(err, api.ErrFault) {
				t.Errorf("P8: Send(%q): %v", written[:i]+with+written[i+1:], err)
			}
			a.Pump(1)
			if err := a.Frame(); err != nil && !errors.Is(err, api.ErrFault) {
				t.Errorf("P9: Frame() of %s: %v", a.Model(), err)
			}
			if _, err := a.Event(nil, "go"); err != nil && !errors.Is(err, api.ErrPath) {
				t.Errorf("P12: Event() of %s: %v", a.Model(), err)
			}
			a.Pump(1)
		}
	}
	for _, piece := range []string{"(", ")", "'", "-", "0", "a"} {
		if err := a.Send(strings.Repeat(piece, 1_000_001)); !errors.Is(err, api.ErrFault) {
			t.Errorf("P8: Send of many %q: %v", piece, err)
		}
	}
	handle(t, a, "'last'")
	wantFrame(t, a, nil)
	if !strings.HasSuffix(a.Tree(), " 'last'") {
		t.Errorf("P1: Tree(): %s", a.Tree())
	}
}

// lent is a text over bytes that the lender may change later.
func lent(text string) (string, func()) {
	room := []byte(text)
	return unsafe.String(&room[0], len(room)), func() {
		for i := range room {
			room[i] = '?'
		}
	}
}

func TestP2NothingHandedInIsKept(t *testing.T) {
	text, spoilText := lent("(fun same (x) x) (fun init () 'first') (fun update (m n) m) (fun view (n) (list 'el' 'p' (list (list 'id' 'x')) (list n (list 'lazy' 'same' 'lazy'))))")
	a := begun(t, text)
	spoilText()
	wantModel(t, a, "'first'")
	message, spoilMessage := lent("'second'")
	send(t, a, message)
	spoilMessage()
	wantPumped(t, a, 1, 1)
	wantModel(t, a, "'second'")
	wantFrame(t, a, nil)
	scribble, spoilScribble := lent("third")
	path := []int{0}
	wantScribbled(t, a, scribble, path...)
	spoilScribble()
	path[0] = 9
	wantTree(t, a, "<p#1 id='x'>#2!'third' 'second'#3 'lazy'</p>")
}

func TestP2NothingOfAnEventIsKept(t *testing.T) {
	a := showing(t, "(fun pair (m) (list m m))")
	value, spoilValue := lent("('tag' 'pair' ('el' 'a' (('on' 'go' 'said')) (5)))")
	handle(t, a, value)
	spoilValue()
	wantFrame(t, a, nil)
	name, spoilName := lent("go")
	path := []int{0}
	wantEvent(t, a, 1, name, path...)
	spoilName()
	path[0] = 9
	wantEvent(t, a, 1, "go", 0)
	wantMessages(t, a, "('said' 'said')", "('said' 'said')")
}

func TestP2PathsAreNotWrittenInto(t *testing.T) {
	a := showing(t, "")
	wantShown(t, a, "('el' 'a' () (('el' 'b' () (1 2))))", "<a#1><b#2>#3 '1'#4 '2'</b></a>")
	room := []int{0, 1, 5, 6, 7}
	wantScribbled(t, a, "x", room[:2]...)
	wantUnscribbled(t, a, api.ErrPath, "x", room[:3]...)
	wantEvent(t, a, 0, "go", room[:2]...)
	wantNoEvent(t, a, "go", room[:3]...)
	if !slices.Equal(room, []int{0, 1, 5, 6, 7}) {
		t.Errorf("P2: what was handed in was written into: %v", room)
	}
}

func TestP2AppsAreApart(t *testing.T) {
	const text = "(fun init () (list)) (fun update (m n) (join n (list m))) (fun view (n) (list 'el' 'p' (list) n))"
	a, b := begun(t, text), begun(t, text)
	wantShown(t, a, "1", "<p#1>#2 '1'</p>")
	wantScribbled(t, a, "x", 0)
	send(t, a, "2")
	wantModel(t, b, "()")
	wantCounts(t, b, api.Count{})
	wantTree(t, b, "")
	wantShown(t, b, "7", "<p#1>#2 '7'</p>")
	wantTree(t, a, "<p#1>#2!'x' '1'</p>")
	wantCounts(t, a, api.Count{Waiting: 1, Frames: 1})
}

func TestP2EventsOfAppsAreApart(t *testing.T) {
	a, b := showing(t, eventFunctions), showing(t, eventFunctions)
	for _, app := range []*stagehand.App{a, b} {
		wantShown(t, app, "('tag' 'inc' ('el' 'a' (('on' 'go' 1) ('on' 'go' 'x')) ()))", "<a#1></a>")
	}
	wantEvent(t, a, 1, "go")
	wantCounts(t, a, api.Count{Waiting: 1, Faults: 1, Frames: 1})
	wantCounts(t, b, api.Count{Frames: 1})
	wantMessages(t, b)
	wantMessages(t, a, "2")
}

// TestP1TheLongestWay: as many nodes and tags as may be stand in one another, each with handlers.
func TestP1TheLongestWay(t *testing.T) {
	a := showing(t, "(fun deep (n) (list 'tag' 'inc' (list 'el' 'a' (list (list 'on' 'go' n)) (if n (list (list 'lazy' 'deep' (sub n 1))) (list))))) (fun inc (m) (add m 1))")
	levels := api.MaxNodes / 3 // a lazy node, a tag and an element each
	wantUnshown(t, a, "('lazy' 'deep' "+strconv.Itoa(levels)+")", levels+1)
	handle(t, a, "('lazy' 'deep' "+strconv.Itoa(levels-1)+")")
	wantFrame(t, a, nil)
	path := make([]int, levels)
	wantNoEvent(t, a, "go", path...)
	wantEvent(t, a, 0, "go", path[:levels-1]...)
	wantEvent(t, a, 0, "go", path[:api.MaxQueue]...)
	var want []string
	for i := api.MaxQueue - 1; i >= 0; i-- {
		// its number, and 1 for each tag from its own on
		want = append(want, strconv.Itoa(levels-1-i+i+1))
	}
	wantEvent(t, a, api.MaxQueue, "go", path[:api.MaxQueue-1]...)
	wantMessages(t, a, want...)
	if dropped := a.Counts().Dropped; dropped != 2 {
		t.Errorf("P12: %d were dropped, want 2", dropped)
	}
}

// atOnce calls from several goroutines, and waits for them.
func atOnce(workers int, call func(worker int)) {
	var all sync.WaitGroup
	begin := make(chan struct{})
	for worker := range workers {
		all.Add(1)
		go func() {
			defer all.Done()
			<-begin
			call(worker)
		}()
	}
	close(begin)
	all.Wait()
}

func sum(numbers []int) int {
	all := 0
	for _, n := range numbers {
		all += n
	}
	return all
}

// TestMessagesAtOnce: no message may be lost, nor handled twice.
func TestMessagesAtOnce(t *testing.T) {
	a := begun(t, bulk+"(fun init () 0) (fun update (m n) (add (sub (add n m) (call bulk 0)) 98)) (fun view (n) n)")
	const workers = 8
	all, dropped := 0, 0
	for range 300 {
		atOnce(workers, func(int) {
			for range 2 {
				if err := a.Send("1"); err != nil {
					t.Errorf("P8: Send: %v", err)
				}
			}
		})
		dropped += 2*workers - api.MaxQueue
		if counts := a.Counts(); counts.Waiting != api.MaxQueue || counts.Dropped != dropped {
			t.Fatalf("P8: %+v, want %d that wait, and %d that were dropped", counts, api.MaxQueue, dropped)
		}
		handled := make([]int, workers)
		atOnce(workers, func(worker int) { handled[worker] = a.Pump(2) })
		all += api.MaxQueue
		if got := sum(handled); got != api.MaxQueue || a.Model() != strconv.Itoa(all) {
			t.Fatalf("P8: %d were handled, want %d; the model is %s, want %d", got, api.MaxQueue, a.Model(), all)
		}
	}
}

// TestMessagesComeAndGoAtOnce: each message is handled, waits or was dropped.
func TestMessagesComeAndGoAtOnce(t *testing.T) {
	a := begun(t, "(fun init () 0) (fun update (m n) (add n m)) (fun view (n) n)")
	const workers, rounds = 8, 4000
	handled := make([]int, workers)
	atOnce(workers, func(worker int) {
		for range rounds {
			if err := a.Send("1"); err != nil {
				t.Errorf("P8: Send: %v", err)
			}
			handled[worker] += a.Pump(worker % 2)
		}
	})
	counts := a.Counts()
	if got := sum(handled); got+counts.Waiting+counts.Dropped != workers*rounds || a.Model() != strconv.Itoa(got) {
		t.Errorf("P8: %d handled, %d wait, %d dropped, of %d; the model is %s", got, counts.Waiting, counts.Dropped, workers*rounds, a.Model())
	}
}

// TestFramesAtOnce: one of them shows what there is, and for the others there is nothing to do.
func TestFramesAtOnce(t *testing.T) {
	a := showing(t, bulk+"(fun slow (x) (list 'el' 'p' (list) (list x (call bulk 0))))")
	for i := range 300 {
		handle(t, a, "('lazy' 'slow' "+strconv.Itoa(i)+")")
		atOnce(8, func(int) {
			if err := a.Frame(); err != nil {
				t.Errorf("P9: Frame: %v", err)
			}
			if err := a.Scribble([]int{1}, "x"); err != nil {
				t.Errorf("P11: Scribble: %v", err)
			}
			if tree, want := a.Tree(), "<p#1>#2 '"+strconv.Itoa(i)+"'#3!'x' '98'</p>"; tree != want {
				t.Errorf("P11: Tree(): %s, want %s", tree, want)
			}
		})
		wantCounts(t, a, api.Count{Frames: i + 1, Lazies: i + 1})
	}
}

// TestEventsAtOnce: all messages of an event wait, or none of them, and none is counted twice.
func TestEventsAtOnce(t *testing.T) {
	a := showing(t, bulk+"(fun slow (m) (sub (add m (call bulk 0)) 98))")
	wantShown(t, a, "('tag' 'slow' ('el' 'p' (('on' 'go' 1) ('on' 'go' 'x') ('on' 'go' 2)) (('el' 'b' (('on' 'go' 0)) ()))))", "<p#1><b#2></b></p>")
	const workers = 8
	for i := range 300 {
		more := make([]int, workers)
		atOnce(workers, func(worker int) {
			var err error
			if more[worker], err = a.Event([]int{0}, "go"); err != nil {
				t.Errorf("P12: Event: %v", err)
			}
		})
		// 3 messages each: of 8 events 4 find room
		if got := sum(more); got != api.MaxQueue {
			t.Fatalf("P12: %d wait, by what Event told, want %d", got, api.MaxQueue)
		}
		wantCounts(t, a, api.Count{Waiting: api.MaxQueue, Faults: workers * (i + 1), Dropped: (workers - api.MaxQueue/3) * (i + 1), Frames: 1})
		wantMessages(t, a, "0", "1", "2", "0", "1", "2", "0", "1", "2", "0", "1", "2")
	}
}

// TestAllCallsAtOnce: each message, from whichever call, is handled, waits or was dropped.
func TestAllCallsAtOnce(t *testing.T) {
	a := begun(t, "(fun init () 0) (fun update (m n) (add n m)) (fun view (n) (list 'el' 'p' (list (list 'on' 'go' 1)) (list n)))")
	wantFrame(t, a, nil)
	const workers, rounds = 8, 1000
	handled, raised := make([]int, workers), make([]int, workers)
	atOnce(workers, func(worker int) {
		for range rounds {
			more, err := a.Event([]int{0}, "go")
			if err != nil {
				t.Errorf("P12: Event: %v", err)
			}
			raised[worker] += more
			handled[worker] += a.Pump(worker % 2)
			if err := a.Frame(); err != nil {
				t.Errorf("P9: Frame: %v", err)
			}
			if err := a.Scribble(nil, "x"); err != nil {
				t.Errorf("P11: Scribble: %v", err)
			}
			if tree := a.Tree(); !strings.HasPrefix(tree, "<p#1!'x'>#2 '") {
				t.Errorf("P11: Tree(): %s", tree)
			}
		}
	})
	counts := a.Counts()
	if got := sum(raised); got+counts.Dropped != workers*rounds || sum(handled)+counts.Waiting != got || a.Model() != strconv.Itoa(sum(handled)) {
		t.Errorf("P12: %d raised, %d dropped, %d handled, %d wait, of %d; the model is %s", got, counts.Dropped, sum(handled), counts.Waiting, workers*rounds, a.Model())
	}
}
