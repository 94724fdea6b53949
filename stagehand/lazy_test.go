package stagehand_test

import (
	"strings"
	"testing"

	"stagehand/api"
)

const lazyFunctions = "(fun same (x) x) (fun other (x) x) (fun box (x) (list 'el' 'i' (list) (list x))) (fun two (x y) y) (fun bad (x) (len x)) (fun zero () 0)" +
	"(fun inner (x y) (list 'lazy' 'same' y)) (fun outer (x y) (list 'lazy' 'other' y)) (fun mark (x y) (list 'tag' 'same' (list 'lazy' 'same' y)))"

// TestP9LazyNodesAtTheSamePlace shows one value and then another, and asks how many lazy nodes were reckoned for this.
func TestP9LazyNodesAtTheSamePlace(t *testing.T) {
	const lazy = "('lazy' 'same' 1)"
	for _, one := range []struct {
		first, then string
		reckoned    int
	}{
		// the topmost node; function and values
		{lazy, lazy, 0}, {lazy, "('lazy' 'same' 2)", 1}, {lazy, "('lazy' 'same' '1')", 1}, {lazy, "('lazy' 'other' 1)", 1}, {"('lazy' 'zero')", "('lazy' 'zero')", 0}, {lazy, "('lazy' 'zero')", 1},
		{"('lazy' 'two' () 1)", "('lazy' 'two' () 1)", 0}, {"('lazy' 'two' () 1)", "('lazy' 'two' (0) 1)", 1}, {"('lazy' 'two' 1 2)", "('lazy' 'two' 2 1)", 1}, {"('lazy' 'two' 1 2)", "('lazy' 'same' 1)", 1}, {"('lazy' 'same' 2)", "('lazy' 'two' 1 2)", 1},
		{"'x'", lazy, 1}, {"1", lazy, 1}, {"('el' 'b' () ())", lazy, 1}, {lazy, "1", 0},
		// in an element: the i-th, if the element is alike
		{"('el' 'b' () (" + lazy + "))", "('el' 'b' () (" + lazy + "))", 0}, {"('el' 'b' () (" + lazy + "))", "('el' 'b' (('id' 'x') ('on' 'go' 1)) (" + lazy + " 2))", 0},
		{"('el' 'b' () (" + lazy + "))", "('el' 'c' () (" + lazy + "))", 1}, {"('el' 'b' () (" + lazy + "))", "('el' 'b' () (0 " + lazy + "))", 1}, {"('el' 'b' () (0 " + lazy + "))", "('el' 'b' () (" + lazy + "))", 1},
		{"('el' 'b' () (" + lazy + " 0))", "('el' 'b' () (" + lazy + " " + lazy + "))", 1}, {"('el' 'b' () (" + lazy + "))", "('el' 'b' () (" + lazy + " " + lazy + "))", 1},
		{"('el' 'b' () (0 ('el' 'c' () (0 " + lazy + "))))", "('el' 'b' () ('x' ('el' 'c' () ('el' " + lazy + "))))", 0}, {"('el' 'b' () (0 ('el' 'c' () (0 " + lazy + "))))", "('el' 'b' () (0 ('el' 'd' () (0 " + lazy + "))))", 1},
		{"('el' 'b' () (" + lazy + "))", lazy, 1}, {lazy, "('el' 'b' () (" + lazy + "))", 1},
		// in a keyed element: that of the same key, if the element is alike
		{"('keyed' 'b' () (('k' " + lazy + ") ('j' 0)))", "('keyed' 'b' () (('j' 0) ('k' " + lazy + ")))", 0}, {"('keyed' 'b' () (('k' " + lazy + ")))", "('keyed' 'b' () (('j' " + lazy + ")))", 1},
		{"('keyed' 'b' () (('k' " + lazy + ")))", "('keyed' 'c' () (('k' " + lazy + ")))", 1}, {"('keyed' 'b' () (('k' " + lazy + ") ('j' ('lazy' 'same' 2))))", "('keyed' 'b' () (('j' " + lazy + ") ('k' ('lazy' 'same' 2))))", 2},
		{"('keyed' 'b' () (('' " + lazy + ")))", "('keyed' 'b' (('id' 'x')) (('a' 0) ('' " + lazy + ")))", 0}, {"('keyed' 'b' () (('a' ('el' 'c' () (" + lazy + ")))))", "('keyed' 'b' () (('b' 0) ('a' ('el' 'c' () (" + lazy + ")))))", 0},
		{"('el' 'b' () (" + lazy + "))", "('keyed' 'b' () (('k' " + lazy + ")))", 1}, {"('keyed' 'b' () (('k' " + lazy + ")))", "('el' 'b' () (" + lazy + "))", 1},
		// in a tag, of whatever function
		{"('tag' 'same' " + lazy + ")", "('tag' 'same' " + lazy + ")", 0}, {"('tag' 'same' " + lazy + ")", "('tag' 'bad' " + lazy + ")", 0}, {"('tag' 'same' " + lazy + ")", lazy, 1}, {lazy, "('tag' 'same' " + lazy + ")", 1},
		{"('tag' 'same' " + lazy + ")", "('tag' 'same' ('tag' 'same' " + lazy + "))", 1}, {"('tag' 'same' ('tag' 'same' " + lazy + "))", "('tag' 'bad' ('tag' 'box' " + lazy + "))", 0},
		{"('tag' 'same' ('el' 'b' () (" + lazy + ")))", "('tag' 'same' ('el' 'b' () (" + lazy + ")))", 0}, {"('el' 'b' () (" + lazy + "))", "('tag' 'same' ('el' 'b' () (" + lazy + ")))", 1}, {"('tag' 'same' ('el' 'b' () (" + lazy + ")))", "('el' 'b' () (" + lazy + "))", 1},
		// in a lazy node that is reckoned, of whatever function
		{"('lazy' 'inner' 1 5)", "('lazy' 'inner' 1 5)", 0}, {"('lazy' 'inner' 1 5)", "('lazy' 'inner' 2 5)", 1}, {"('lazy' 'inner' 1 5)", "('lazy' 'inner' 1 6)", 2}, {"('lazy' 'inner' 1 5)", "('lazy' 'outer' 1 5)", 2},
		{"('lazy' 'inner' 1 5)", "('lazy' 'same' ('lazy' 'same' 5))", 1}, {"('lazy' 'same' ('lazy' 'same' 5))", "('lazy' 'inner' 7 5)", 1}, {"('lazy' 'inner' 1 1)", lazy, 1}, {lazy, "('lazy' 'inner' 1 1)", 2},
		{"('lazy' 'mark' 1 5)", "('lazy' 'mark' 2 5)", 1}, {"('lazy' 'mark' 1 5)", "('lazy' 'inner' 1 5)", 2}, {"('lazy' 'box' " + lazy + ")", "('lazy' 'same' ('el' 'i' () (" + lazy + ")))", 1}, {"('lazy' 'box' " + lazy + ")", "('el' 'i' () (" + lazy + "))", 1}, {"('el' 'i' () (" + lazy + "))", "('lazy' 'box' " + lazy + ")", 2},
	} {
		a := showing(t, lazyFunctions)
		handle(t, a, one.first)
		wantFrame(t, a, nil)
		first := a.Counts().Lazies
		handle(t, a, one.then)
		wantFrame(t, a, nil)
		if got := a.Counts().Lazies - first; got != one.reckoned {
			t.Errorf("P9: %s behind %s: %d lazy nodes reckoned, want %d", one.then, one.first, got, one.reckoned)
		}
		handle(t, a, one.then)
		wantFrame(t, a, nil)
		if got := a.Counts().Lazies - first; got != one.reckoned {
			t.Errorf("P9: %s again: %d lazy nodes reckoned, want none", one.then, got-one.reckoned)
		}
	}
}

func TestP9LazyNodesWithAFault(t *testing.T) {
	a := showing(t, lazyFunctions)
	wantFrame(t, a, nil)
	for message, lazies := range map[string]int{
		"('lazy' 'bad' 5)": 1, "('lazy' 'same' ())": 1, "('lazy' 'same' ('lazy' 'same' ()))": 2, "('lazy' 'no' 5)": 0,
		// looked at in their order, up to the first fault
		"('el' 'b' () (('lazy' 'same' 1) () ('lazy' 'same' 2)))": 1, "('el' 'b' () (() ('lazy' 'same' 1)))": 0, "('el' 'b' () (('lazy' 'same' 1) ('lazy' 'bad' 1) ('lazy' 'same' 2)))": 2, "('el' 'b' () (('el' 'b' () (('lazy' 'inner' 1 1))) ('lazy' 'bad' 1)))": 3,
		"('keyed' 'b' () (('a' ('lazy' 'same' 1)) ('b' ()) ('c' ('lazy' 'same' 2))))": 1,
		// each one ahead of those in it
		"('el' 'b' (5) (('lazy' 'same' 1)))": 0, "('el' 'B' () (('lazy' 'same' 1)))": 0, "('el' 'b' () (('lazy' 'same' 1)) 0)": 0, "('keyed' 'b' () (('a' ('lazy' 'same' 1)) ('a' 2)))": 0, "('keyed' 'b' () (('a' ('lazy' 'same' 1)) 2))": 0, "('tag' 'no' ('lazy' 'same' 1))": 0, "('tag' 'same' ('lazy' 'same' 1) 1)": 0, "('lazy' 'bad' ('lazy' 'same' 1) 0)": 0,
	} {
		wantUnshown(t, a, message, lazies)
		wantUnshown(t, a, message, lazies) // what was reckoned for a fault was not shown
	}
}

func TestP9LazyNodesOfWhatWasShownLast(t *testing.T) {
	a := showing(t, lazyFunctions)
	wantShown(t, a, "('el' 'b' () (('lazy' 'same' 1)))", "<b#1>#2 '1'</b>")
	wantUnshown(t, a, "('el' 'b' () (('lazy' 'same' 2) ()))", 1)
	wantShown(t, a, "('el' 'b' () (('lazy' 'same' 1)))", "<b#1>#2 '1'</b>")
	wantCounts(t, a, api.Count{Faults: 1, Frames: 2, Lazies: 2})
	wantUnshown(t, a, "('el' 'b' () (('lazy' 'same' 2) ()))", 1)
	wantShown(t, a, "('el' 'b' () (('lazy' 'same' 2)))", "<b#1>#2 '2'</b>")
	wantCounts(t, a, api.Count{Faults: 2, Frames: 3, Lazies: 4})
	wantShown(t, a, "0", "#3 '0'")
	wantShown(t, a, "('el' 'b' () (('lazy' 'same' 2)))", "<b#4>#5 '2'</b>")
	wantCounts(t, a, api.Count{Faults: 2, Frames: 5, Lazies: 5})
}

func TestP9WhatIsInALazyNodeStays(t *testing.T) {
	a := showing(t, lazyFunctions)
	wantShown(t, a, "('el' 'b' () (('lazy' 'box' ('lazy' 'box' 'x')) 'y'))", "<b#1><i#2><i#3>#4 'x'</i></i>#5 'y'</b>")
	wantScribbled(t, a, "deep", 0, 0, 0)
	wantShown(t, a, "('el' 'b' () (('lazy' 'box' ('lazy' 'box' 'x')) 'z'))", "<b#1><i#2><i#3>#4!'deep' 'x'</i></i>#5 'z'</b>")
	wantCounts(t, a, api.Count{Frames: 2, Lazies: 2})
	// reckoned anew, or no more lazy, it is matched as others are
	wantShown(t, a, "('el' 'b' () (('lazy' 'box' ('lazy' 'box' 'w')) 'z'))", "<b#1><i#2><i#3>#4!'deep' 'w'</i></i>#5 'z'</b>")
	wantShown(t, a, "('el' 'b' () (('el' 'i' () (('tag' 'same' ('el' 'i' () ('v'))))) 'z'))", "<b#1><i#2><i#3>#4!'deep' 'v'</i></i>#5 'z'</b>")
	wantShown(t, a, "('tag' 'same' ('tag' 'bad' ('el' 'b' () (('lazy' 'box' ('el' 'i' () ())) ('lazy' 'box' 'n')))))", "<b#1><i#2><i#3></i></i><i#6>#7 'n'</i></b>")
	wantShown(t, a, "('el' 'b' () (('lazy' 'box' ('el' 'i' () (1)))))", "<b#1><i#2><i#3>#8 '1'</i></i></b>")
}

func TestP9NodesInLazyNodesThatStayCount(t *testing.T) {
	a := showing(t, "(fun row (x) (list 'el' 'b' (list) x))")
	lazy := "('lazy' 'row' " + row(50, "0") + ")" // 52 nodes
	value := func(others int) string {
		return "('el' 'a' () (" + lazy + " " + strings.TrimSuffix(strings.Repeat("1 ", others), " ") + "))"
	}
	most := api.MaxNodes - 53
	for _, others := range []int{1, most - 1, most, 1} {
		handle(t, a, value(others))
		wantFrame(t, a, nil)
	}
	wantUnshown(t, a, value(most+1), 0)
	wantUnshown(t, a, "('el' 'a' () ("+lazy+" "+lazy+"))", 1)
	wantUnshown(t, a, "('el' 'a' () ("+lazy+" "+lazy+" ('lazy' 'row' ())))", 1)
	wantCounts(t, a, api.Count{Frames: 4, Faults: 3, Lazies: 3})
	behind := func(others int) string { return "('el' 'a' () (('el' 'c' () " + row(others, "1") + ") " + lazy + "))" }
	for _, others := range []int{0, most - 2, most - 1, 5} {
		handle(t, a, behind(others))
		wantFrame(t, a, nil)
	}
	wantUnshown(t, a, behind(most), 0)
	wantCounts(t, a, api.Count{Frames: 8, Faults: 4, Lazies: 4})
}
