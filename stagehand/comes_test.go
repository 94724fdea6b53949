package stagehand_test

import (
	"errors"
	"math/rand/v2"
	"regexp"
	"slices"
	"strconv"
	"strings"
	"testing"

	"stagehand/api"
	"stagehand/stagehand"
)

// What comes of it all: made-up shapes with handlers, and whole programs beside others that must show the same.

func (m maker) handlers() string {
	written := ""
	if !m.hears {
		return written
	}
	for range m.IntN(4) {
		written += " ('on' '" + m.pick("go", "go", "tap") + "' " + m.pick("1", "22", "'t'", "()") + m.pick("", "", " 0", " 1") + ")"
	}
	return written
}

var oneHandler = regexp.MustCompile(`\('on' '(\w+)' (\(\)|[^ ()]+)( \d)?\)`)

// told goes down a path, and tells from the node there upward what the handlers of an event have for messages, and how many are faults.
func (s *shape) told(event string, path []int, tags []string) (all []string, faults int, stopped bool) {
	for s.kind == "tag" || s.kind == "lazy" {
		if s.kind == "tag" {
			tags = append([]string{s.word}, tags...)
			s = s.in[0]
		} else {
			s = s.given()
		}
	}
	if len(path) > 0 {
		all, faults, stopped = s.in[path[0]].told(event, path[1:], tags)
	}
	if stopped {
		return all, faults, true
	}
	for _, handler := range oneHandler.FindAllStringSubmatch(s.on, -1) {
		if handler[1] != event {
			continue
		}
		stopped = stopped || handler[3] == " 1"
		if message := putThrough(handler[2], tags); message != "" {
			all = append(all, message)
		} else {
			faults++
		}
	}
	return all, faults, stopped
}

// putThrough is what the tags of shapeFunctions make of a message; nothing, if that is a fault.
func putThrough(message string, tags []string) string {
	for _, tag := range tags {
		switch tag {
		case "box":
			message = "('el' 'b' (('id' 'b')) (" + message + "))"
		case "wrap":
			message = "('w' " + message + ")"
		case "inc":
			number, err := strconv.Atoi(message)
			if err != nil {
				return ""
			}
			message = strconv.Itoa(number + 1)
		}
	}
	return message
}

// TestP12MadeUpShapes raises events all over made-up shapes, with lazy nodes that stay and with changed handlers and tags.
func TestP12MadeUpShapes(t *testing.T) {
	heardSome, faultSome, droppedSome := 0, 0, 0
	for seed := range uint64(150) {
		m := maker{Rand: rand.New(rand.NewPCG(seed, 12)), hears: true}
		a := showing(t, shapeFunctions)
		o := &oracle{}
		top := m.shape(4)
		want := api.Count{}
		for range 20 {
			top = m.next(top)
			wantShown(t, a, top.written(false), o.frame(top))
			want.Frames++
			want.Lazies = o.reckoned
			var waiting []string
			for _, place := range o.places() {
				event := m.pick("go", "go", "tap", "none")
				all, faults, _ := top.told(event, o.paths[place], nil)
				if len(waiting)+len(all) > api.MaxQueue {
					all = nil
					want.Dropped++
					droppedSome++
				}
				wantEvent(t, a, len(all), event, o.paths[place]...)
				waiting = append(waiting, all...)
				want.Waiting, want.Faults = len(waiting), want.Faults+faults
				heardSome, faultSome = heardSome+len(all), faultSome+faults
				wantCounts(t, a, want)
				if m.IntN(12) == 0 {
					wantMessages(t, a, waiting...)
					waiting = nil
				}
			}
			wantMessages(t, a, waiting...)
			if t.Failed() {
				t.Fatalf("P12: at seed %d: %s", seed, top.written(false))
			}
		}
	}
	if heardSome < 1000 || faultSome < 50 || droppedSome < 50 {
		t.Errorf("P12: only %d messages, %d faults and %d drops were tried", heardSome, faultSome, droppedSome)
	}
}

var numberAndScribble = regexp.MustCompile(`#(\d+)(!'[^']*')?`)

// unnumbered is a tree but for its numbers and what is written on it. (No text of the shapes has a # in it.)
func unnumbered(tree string) string { return numberAndScribble.ReplaceAllString(tree, "#") }

// TestP14TheModelAlone: an App that has shown much shows the same as one that shows nothing else, but for numbers and scribbles.
func TestP14TheModelAlone(t *testing.T) {
	for seed := range uint64(60) {
		m := maker{Rand: rand.New(rand.NewPCG(seed, 14)), hears: true}
		a := showing(t, shapeFunctions)
		o := &oracle{}
		top := m.shape(4)
		for range 20 {
			top = m.next(top)
			if m.IntN(4) == 0 {
				handle(t, a, "('el' 'a' () (('lazy' 'box' 'x') ()))")
				wantFrame(t, a, api.ErrFault)
			}
			wantShown(t, a, top.written(false), o.frame(top))
			scribbleSomewhere(t, m, o, a)
			fresh := showing(t, shapeFunctions)
			handle(t, fresh, top.written(false))
			wantFrame(t, fresh, nil)
			if got, want := unnumbered(a.Tree()), unnumbered(fresh.Tree()); got != want {
				t.Fatalf("P14: at seed %d: %s, but alone %s", seed, got, want)
			}
		}
	}
}

// scribbles tells of each number of a tree what is written on its node.
func scribbles(tree string) map[string]string {
	all := map[string]string{}
	for _, found := range numberAndScribble.FindAllStringSubmatch(tree, -1) {
		all[found[1]] = found[2]
	}
	return all
}

// TestP14TheSameNodeKeepsWhatWasWritten: on a node that stays stands the same as ahead, on a new one nothing, and no number comes back.
func TestP14TheSameNodeKeepsWhatWasWritten(t *testing.T) {
	stayed := 0
	for seed := range uint64(60) {
		m := maker{Rand: rand.New(rand.NewPCG(seed, 41)), hears: true}
		a := showing(t, shapeFunctions)
		o := &oracle{}
		top := m.shape(4)
		ever, before := map[string]bool{}, map[string]string{}
		for range 20 {
			top = m.next(top)
			wantShown(t, a, top.written(false), o.frame(top))
			for number, written := range scribbles(a.Tree()) {
				was, there := before[number]
				if there && written != "" {
					stayed++
				}
				if written != was || ever[number] && !there {
					t.Fatalf("P14: at seed %d: on node %s stands %s, and stood %s; in %s", seed, number, written, was, a.Tree())
				}
				ever[number] = true
			}
			for range 3 {
				scribbleSomewhere(t, m, o, a)
			}
			before = scribbles(a.Tree())
		}
	}
	if stayed < 500 {
		t.Errorf("P14: only %d nodes stayed with what was written on them", stayed)
	}
}

// todo is a program with lazy nodes: LAZY f stands for one of the function f.
const todo = `
(fun done (m) (list 'done' m)) (fun name (m) (list 'name' m))
(fun label (s) (list 'el' 'b' (list (list 'on' 'tap' s)) (list s)))
(fun lines (s n) (if (less n 2) s (list 'tag' 'name' (list 'el' 'u' (list (list 'on' 'tap' n 1)) (list (LAZY label s) n)))))
(fun item (p) (list 'tag' 'done' (list 'el' 'i' (list (list 'on' 'go' (at p 0)) (list 'id' (at p 1))) (list (LAZY lines (at p 1) (at p 0)) (LAZY label (at p 1))))))
(fun pair (p) (list (at p 1) (LAZY item p)))
(fun bump (p) (list (if (less (at p 0) 3) (add (at p 0) 1) 1) (at p 1)))
(fun next (m l) (if (eq (at m 0) 'new') (if (less (len l) 3) (join (list (at m 1)) l) l) (if (eq (at m 0) 'turn') (list (at l 1) (at l 0)) (if (eq (at m 0) 'drop') (list) (map bump l)))))
(fun all (l) (list 'el' 'a' (list (list 'on' 'go' (list 'drop'))) (list (len l) (list 'keyed' 'k' (list) (map pair l)) (if (len l) (LAZY item (at l 0)) 'none'))))
(fun init () (list 0 (list)))
(fun update (m n) (list m (call next m (at n 1))))
(fun view (n) (call all (at n 1)))`

var lazyForm = regexp.MustCompile(`\(LAZY (\w+)`)

// TestP14WithoutLazyNodes does the same with two programs, of which one has the nodes themselves instead of lazy ones: of all answers only the lazy ones that were reckoned may be others.
func TestP14WithoutLazyNodes(t *testing.T) {
	reckoned, shown, raised := 0, 0, 0
	for seed := range uint64(100) {
		m := maker{Rand: rand.New(rand.NewPCG(seed, 5))}
		lazy := begun(t, lazyForm.ReplaceAllString(todo, "(list 'lazy' '$1'"))
		plain := begun(t, lazyForm.ReplaceAllString(todo, "(call $1"))
		for range 60 {
			path := make([]int, m.IntN(5))
			for i := range path {
				path[i] = m.IntN(3)
			}
			message := m.pick("('new' (1 'x'))", "('new' (2 'y'))", "('new' (3 'z'))", "('turn')", "('turn')", "('bump')", "5")
			call, event := m.IntN(6), m.pick("go", "tap", "tap")
			one, other := tellCall(call, lazy, message, event, path), tellCall(call, plain, message, event, path)
			if strings.HasPrefix(one, "4 1") || strings.HasPrefix(one, "4 2") {
				raised++
			}
			if one != other {
				t.Fatalf("P14: at seed %d:\n%s\nwithout lazy nodes:\n%s", seed, one, other)
			}
		}
		reckoned, shown = reckoned+lazy.Counts().Lazies, shown+lazy.Counts().Frames
	}
	if reckoned < 1000 || shown < 300 || raised < 100 {
		t.Errorf("P14: only %d lazy nodes, %d frames and %d events were tried", reckoned, shown, raised)
	}
}

// tellCall makes one of the calls, and tells all that is to be seen then but for the lazy nodes.
func tellCall(call int, a *stagehand.App, message, event string, path []int) string {
	var err error
	answer := 0
	switch call {
	case 0:
		err = a.Send(message)
	case 1:
		answer = a.Pump(2)
	case 2, 3:
		err = a.Frame()
	case 4:
		answer, err = a.Event(path, event)
	case 5:
		err = a.Scribble(path, event)
	}
	counts := a.Counts()
	told := []string{strconv.Itoa(call), strconv.Itoa(answer), a.Model(), a.Tree()}
	for _, count := range []int{counts.Waiting, counts.Faults, counts.Dropped, counts.Frames} {
		told = append(told, strconv.Itoa(count))
	}
	told = append(told, strconv.FormatBool(errors.Is(err, api.ErrFault)), strconv.FormatBool(errors.Is(err, api.ErrPath)))
	return strings.Join(told, " ")
}

// places tells of what is shown, in one order.
func (o *oracle) places() []string {
	var places []string
	for place := range o.paths {
		places = append(places, place)
	}
	slices.Sort(places)
	return places
}
