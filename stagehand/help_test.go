package stagehand_test

import (
	"errors"
	"strings"
	"testing"

	"stagehand/api"
	"stagehand/stagehand"
)

// three is what every program needs.
const three = "(fun init () 0) (fun update (m n) n) (fun view (n) n)"

var causes = []error{api.ErrLong, api.ErrText, api.ErrDeep, api.ErrName, api.ErrTwice, api.ErrArity, api.ErrMain}

// unmark takes out the first mark, and tells where it stood.
func unmark(marked string) (string, int) {
	return strings.Replace(marked, "@", "", 1), strings.Index(marked, "@")
}

// causeOf fails if an error is not told as the document asks: one cause, at one place.
func causeOf(t *testing.T, text string, err error) (error, int) {
	t.Helper()
	if err == nil {
		return nil, 0
	}
	var wrong api.Wrong
	if !errors.As(err, &wrong) {
		t.Fatalf("P3: Check(%.90q): no Wrong in %v", text, err)
	}
	var found error
	for _, cause := range causes {
		if errors.Is(err, cause) {
			if found != nil {
				t.Fatalf("P1: Check(%.90q): %v is two errors", text, err)
			}
			found = cause
		}
	}
	if found == nil {
		t.Fatalf("P3: Check(%.90q): %v is no error of a program", text, err)
	}
	return found, wrong.Place
}

func wantAt(t *testing.T, text string, want error, place int) {
	t.Helper()
	cause, at := causeOf(t, text, stagehand.Check(text))
	if cause != want || at != place {
		t.Errorf("Check(%.120q): %v at %d, want %v at %d", text, cause, at, want, place)
	}
}

// wantMarked asks for an error at the mark.
func wantMarked(t *testing.T, marked string, want error) {
	t.Helper()
	text, place := unmark(marked)
	wantAt(t, text, want, place)
}

func wantRight(t *testing.T, text string) {
	t.Helper()
	wantAt(t, text, nil, 0)
}
