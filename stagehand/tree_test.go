package stagehand_test

import (
	"errors"
	"math"
	"strings"
	"testing"

	"stagehand/api"
	"stagehand/stagehand"
)

func wantScribbled(t *testing.T, a *stagehand.App, text string, path ...int) {
	t.Helper()
	if err := a.Scribble(path, text); err != nil {
		t.Errorf("P11: Scribble(%v, %q): %v", path, text, err)
	}
}

// wantUnscribbled asks for one error, and that nothing has changed.
func wantUnscribbled(t *testing.T, a *stagehand.App, want error, text string, path ...int) {
	t.Helper()
	counts, tree := a.Counts(), a.Tree()
	err := a.Scribble(path, text)
	if !errors.Is(err, want) || errors.Is(err, api.ErrPath) && errors.Is(err, api.ErrFault) {
		t.Errorf("P11: Scribble(%.60v, %.60q): %v, want %v", path, text, err, want)
	}
	wantTree(t, a, tree)
	wantCounts(t, a, counts)
}

func TestP11HowNodesAreTold(t *testing.T) {
	for value, tree := range map[string]string{
		"0": "#1 '0'", "-12": "#1 '-12'", "-9223372036854775808": "#1 '-9223372036854775808'", "''": "#1 ''", "'a <b> #2'": "#1 'a <b> #2'", "'el'": "#1 'el'",
		"('el' 'b' () ())": "<b#1></b>", "('keyed' 'b' () ())": "<b#1></b>", "('el' 'abcdefgh' () ('x'))": "<abcdefgh#1>#2 'x'</abcdefgh>",
		"('el' 'b' (('id' 'x') ('on' 'go' 1) ('class' '') ('id' 'y z')) ())":                                                   "<b#1 id='x' class='' id='y z'></b>",
		"('keyed' 'b' (('on' 'go' 1 1) ('id' 'x')) (('k' 1) ('' ('el' 'c' (('on' 'go' ())) ('x')))))":                          "<b#1 id='x'>#2 '1'<c#3>#4 'x'</c></b>",
		"('el' 'a' () (('el' 'b' () (('el' 'c' () ()) 1)) ('keyed' 'd' () (('k' 2) ('j' 3))) 4))":                              "<a#1><b#2><c#3></c>#4 '1'</b><d#5>#6 '2'#7 '3'</d>#8 '4'</a>",
		"('tag' 'same' ('el' 'a' () (('tag' 'same' ('tag' 'same' 1)) ('lazy' 'same' ('el' 'b' () (('lazy' 'same' 'x')))) 2)))": "<a#1>#2 '1'<b#3>#4 'x'</b>#5 '2'</a>",
		"('lazy' 'same' ('tag' 'same' ('lazy' 'same' 5)))":                                                                     "#1 '5'",
	} {
		a := showing(t, "(fun same (x) x)")
		wantTree(t, a, "")
		wantShown(t, a, value, tree)
		wantTree(t, a, tree)
		wantShown(t, a, value, tree)
	}
}

// TestP9Matching shows one value and then another: the nodes of the first are numbered as they come, those of the second as told.
func TestP9Matching(t *testing.T) {
	for _, one := range [][3]string{
		// the topmost nodes
		{"1", "'x'", "#1 'x'"}, {"1", "('el' 'b' () ())", "<b#2></b>"}, {"('el' 'b' () ())", "1", "#2 '1'"}, {"('el' 'b' () ())", "('el' 'c' () ())", "<c#2></c>"}, {"('el' 'b' () ())", "('keyed' 'b' () ())", "<b#2></b>"}, {"('keyed' 'b' () ())", "('el' 'b' () ())", "<b#2></b>"}, {"('keyed' 'b' () ())", "('keyed' 'c' () ())", "<c#2></c>"}, {"('keyed' 'b' (('id' 'x')) ())", "('keyed' 'b' (('a' '')) ())", "<b#1 a=''></b>"},
		// without one above that matches there is none within
		{"('el' 'b' () (1 ('el' 'c' () (2))))", "('el' 'd' () (1 ('el' 'c' () (2))))", "<d#5>#6 '1'<c#7>#8 '2'</c></d>"},
		{"('el' 'b' () (('el' 'c' () (('el' 'd' () ())))))", "('el' 'b' () (('el' 'e' () (('el' 'd' () ())))))", "<b#1><e#4><d#5></d></e></b>"},
		// in elements: the i-th ones
		{"('el' 'b' () (1 2 3))", "('el' 'b' () (2 3))", "<b#1>#2 '2'#3 '3'</b>"}, {"('el' 'b' () (1 2))", "('el' 'b' () (0 1 2))", "<b#1>#2 '0'#3 '1'#4 '2'</b>"},
		{"('el' 'b' () (('el' 'c' () ()) 1))", "('el' 'b' () (1 ('el' 'c' () ())))", "<b#1>#4 '1'<c#5></c></b>"}, {"('el' 'b' () (1 ('el' 'c' () (1)) 2))", "('el' 'b' () (1 ('el' 'd' () (1)) 2 3))", "<b#1>#2 '1'<d#6>#7 '1'</d>#5 '2'#8 '3'</b>"},
		{"('el' 'b' () (('el' 'c' () (1)) ('el' 'c' () (2))))", "('el' 'b' () (('el' 'c' () (0 1)) ('el' 'c' () ())))", "<b#1><c#2>#3 '0'#6 '1'</c><c#4></c></b>"},
		// in keyed ones: those of the same key
		{"('keyed' 'b' () (('k' 1) ('j' 2) ('i' 3)))", "('keyed' 'b' () (('i' 1) ('h' 2) ('k' 3)))", "<b#1>#4 '1'#5 '2'#2 '3'</b>"}, {"('keyed' 'b' () (('k' 1) ('j' ('el' 'c' () ()))))", "('keyed' 'b' () (('j' 1) ('k' ('el' 'c' () ()))))", "<b#1>#4 '1'<c#5></c></b>"},
		{"('keyed' 'b' () (('k' 1) ('' 2)))", "('keyed' 'b' () (('' 2) (' ' 1)))", "<b#1>#3 '2'#4 '1'</b>"}, {"('keyed' 'b' () (('k' ('keyed' 'b' () (('k' 1) ('j' 2))))))", "('keyed' 'b' () (('j' 0) ('k' ('keyed' 'b' () (('j' 1) ('k' 2))))))", "<b#1>#5 '0'<b#2>#4 '1'#3 '2'</b></b>"},
		// through tags and lazy nodes
		{"('tag' 'same' ('el' 'b' () (1)))", "('el' 'b' () (('lazy' 'same' 2)))", "<b#1>#2 '2'</b>"}, {"('lazy' 'same' 1)", "('tag' 'same' ('lazy' 'same' ('tag' 'same' 2)))", "#1 '2'"}, {"('lazy' 'same' 1)", "('lazy' 'same' ('el' 'b' () ()))", "<b#2></b>"},
		{"('keyed' 'b' () (('k' ('tag' 'same' 1)) ('j' 2)))", "('keyed' 'b' () (('j' ('lazy' 'same' 2)) ('k' 1)))", "<b#1>#3 '2'#2 '1'</b>"},
	} {
		a := showing(t, "(fun same (x) x)")
		handle(t, a, one[0])
		wantFrame(t, a, nil)
		wantShown(t, a, one[1], one[2])
	}
}

func TestP9NumbersAreNotGivenTwice(t *testing.T) {
	a := showing(t, "")
	wantShown(t, a, "('el' 'b' () (1 2 3))", "<b#1>#2 '1'#3 '2'#4 '3'</b>")
	wantShown(t, a, "('el' 'b' () ())", "<b#1></b>")
	wantShown(t, a, "('el' 'b' () (1))", "<b#1>#5 '1'</b>")
	wantUnshown(t, a, "('el' 'b' () (1 2 3 4 ()))", 0)
	wantUnshown(t, a, "('el' 'c' () ('x' ('el')))", 0)
	wantShown(t, a, "('el' 'b' () (1 2))", "<b#1>#5 '1'#6 '2'</b>")
	wantShown(t, a, "0", "#7 '0'")
	wantShown(t, a, "('el' 'b' () (1 2))", "<b#8>#9 '1'#10 '2'</b>")
}

func TestP11Scribble(t *testing.T) {
	a := showing(t, "(fun same (x) x)")
	wantShown(t, a, "('el' 'a' (('id' 'x')) (1 ('keyed' 'b' () (('k' 2) ('j' ('lazy' 'same' ('el' 'c' () ('y'))))))))", "<a#1 id='x'>#2 '1'<b#3>#4 '2'<c#5>#6 'y'</c></b></a>")
	wantScribbled(t, a, "top")
	wantTree(t, a, "<a#1!'top' id='x'>#2 '1'<b#3>#4 '2'<c#5>#6 'y'</c></b></a>")
	wantScribbled(t, a, "one", 0)
	wantScribbled(t, a, "", 1)
	wantScribbled(t, a, "a # <b> !", 1, 1)
	wantScribbled(t, a, "y", 1, 1, 0)
	wantTree(t, a, "<a#1!'top' id='x'>#2!'one' '1'<b#3!''>#4 '2'<c#5!'a # <b> !'>#6!'y' 'y'</c></b></a>")
	// whatever was there is no more
	wantScribbled(t, a, "", 0)
	wantScribbled(t, a, "new", 1)
	wantTree(t, a, "<a#1!'top' id='x'>#2!'' '1'<b#3!'new'>#4 '2'<c#5!'a # <b> !'>#6!'y' 'y'</c></b></a>")
	wantCounts(t, a, api.Count{Frames: 1, Lazies: 1})
	// it stays with its node, and goes with it
	wantShown(t, a, "('el' 'a' () (('el' 'd' () ()) ('keyed' 'b' () (('j' ('el' 'c' () ('z'))) ('k' 3)))))", "<a#1!'top'><d#7></d><b#3!'new'><c#5!'a # <b> !'>#6!'y' 'z'</c>#4 '3'</b></a>")
	wantShown(t, a, "('el' 'a' () (1 ('keyed' 'b' () (('k' 3)))))", "<a#1!'top'>#8 '1'<b#3!'new'>#4 '3'</b></a>")
	wantShown(t, a, "('el' 'a' () (1 ('keyed' 'b' () (('j' ('el' 'c' () ('z')))))))", "<a#1!'top'>#8 '1'<b#3!'new'><c#9>#10 'z'</c></b></a>")
	wantShown(t, a, "0", "#11 '0'")
	wantShown(t, a, "('el' 'a' () ())", "<a#12></a>")
}

func TestP11ScribbledNodesStayThroughAFault(t *testing.T) {
	a := showing(t, "")
	wantShown(t, a, "('el' 'a' () (1))", "<a#1>#2 '1'</a>")
	wantScribbled(t, a, "one", 0)
	wantUnshown(t, a, "('el' 'a' () (2 ()))", 0)
	wantScribbled(t, a, "top")
	wantTree(t, a, "<a#1!'top'>#2!'one' '1'</a>")
	wantShown(t, a, "('el' 'a' () (2))", "<a#1!'top'>#2!'one' '2'</a>")
}

func TestP11NoNodeAtThePath(t *testing.T) {
	a := showing(t, "(fun same (x) x)")
	for _, path := range [][]int{nil, {}, {0}, {-1}, {0, 0}} {
		wantUnscribbled(t, a, api.ErrPath, "x", path...)
		wantUnscribbled(t, a, api.ErrPath, "'", path...)
	}
	wantShown(t, a, "('el' 'a' () (1 ('tag' 'same' ('keyed' 'b' () (('k' 2) ('j' ('lazy' 'same' 3)))))))", "<a#1>#2 '1'<b#3>#4 '2'#5 '3'</b></a>")
	for _, path := range [][]int{{2}, {-1}, {3}, {0, 0}, {0, -1}, {1, 2}, {1, -1}, {1, 0, 0}, {1, 1, 0}, {2, 0}, {-1, 0}, {math.MaxInt}, {math.MinInt}, {1, math.MaxInt}, {1, math.MinInt}, {1 << 32}, {1, 1 << 32}, make([]int, 1_000_000)} {
		wantUnscribbled(t, a, api.ErrPath, "x", path...)
		wantUnscribbled(t, a, api.ErrPath, "'", path...) // which is a fault, too: but the path is named first
		wantUnscribbled(t, a, api.ErrPath, strings.Repeat("x", api.MaxQuoted+1), path...)
	}
	for _, path := range [][]int{nil, {}, {0}, {1}, {1, 0}, {1, 1}} {
		wantScribbled(t, a, "x", path...)
	}
	wantShown(t, a, "5", "#6 '5'")
	wantScribbled(t, a, "x")
	wantUnscribbled(t, a, api.ErrPath, "x", 0)
}

func TestP11WhatMayBeWritten(t *testing.T) {
	a := showing(t, "")
	wantShown(t, a, "5", "#1 '5'")
	for b := range 256 {
		text := "a" + string([]byte{byte(b)})
		if 32 <= b && b <= 126 && b != '\'' {
			wantScribbled(t, a, text)
			wantTree(t, a, "#1!'"+text+"' '5'")
		} else {
			wantUnscribbled(t, a, api.ErrFault, text)
			wantUnscribbled(t, a, api.ErrFault, text+"a")
		}
	}
	for many := range api.MaxQuoted + 3 {
		text := strings.Repeat("~", many)
		if many <= api.MaxQuoted {
			wantScribbled(t, a, text)
			wantTree(t, a, "#1!'"+text+"' '5'")
		} else {
			wantUnscribbled(t, a, api.ErrFault, text)
		}
	}
	for _, text := range []string{"é", "'", "\n", strings.Repeat("x", 1_000_000), strings.Repeat("'", 1_000_000)} {
		wantUnscribbled(t, a, api.ErrFault, text)
	}
}

func TestTheExampleOfTheCounter(t *testing.T) {
	a := begun(t, counter)
	wantFrame(t, a, nil)
	wantTree(t, a, "<p#1 id='x'>#2 '0'#3 'other'</p>")
	wantCounts(t, a, api.Count{Frames: 1, Lazies: 1})
	wantShown(t, a, "1", "<p#1 id='x'>#2 '1'#3 'other'</p>")
	wantModel(t, a, "1")
	wantCounts(t, a, api.Count{Frames: 2, Lazies: 1})
	wantShown(t, a, "2", "<p#1 id='x'>#2 '3'#3 'three'</p>")
	wantCounts(t, a, api.Count{Frames: 3, Lazies: 2})
	without := strings.TrimPrefix(counter, "(fun odd (b) (if b 'three' 'other')) ")
	a = begun(t, without)
	wantFrame(t, a, api.ErrFault)
	wantTree(t, a, "")
	wantCounts(t, a, api.Count{Faults: 1})
}
