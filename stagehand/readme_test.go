package stagehand_test

import (
	"testing"

	"stagehand/api"
)

// TestReadme goes through what README.md shows of an App.
func TestReadme(t *testing.T) {
	a := begun(t, "(fun init () 0)\n(fun update (m n) (add n m))\n(fun view (n) (list 'el' 'p' (list) (list n)))\n")
	wantModel(t, a, "0")
	send(t, a, "3")
	wantPumped(t, a, 10, 1)
	wantModel(t, a, "3")
	wantFrame(t, a, nil)
	wantTree(t, a, "<p#1>#2 '3'</p>")
	wantScribbled(t, a, "seen", 0)
	wantTree(t, a, "<p#1>#2!'seen' '3'</p>")
	wantUnscribbled(t, a, api.ErrPath, "seen", 1)
}

// TestReadmeEvent goes through what README.md shows of events.
func TestReadmeEvent(t *testing.T) {
	a := begun(t, "(fun more (m) (mul m 10)) (fun init () 0) (fun update (m n) (add n m)) (fun view (n) (list 'el' 'p' (list (list 'on' 'up' 1)) (list n (list 'tag' 'more' (list 'el' 'b' (list (list 'on' 'up' 1)) (list))))))")
	wantFrame(t, a, nil)
	wantEvent(t, a, 2, "up", 1)
	wantPumped(t, a, 1, 1)
	wantModel(t, a, "10")
	wantPumped(t, a, 10, 1)
	wantModel(t, a, "11")
	wantNoEvent(t, a, "up", 2)
}
