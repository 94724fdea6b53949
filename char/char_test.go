package char

import (
	"strings"
	"testing"
)

func TestSorts(t *testing.T) {
	sorts := map[string]func(byte) bool{
		" \n":                        IsBlank,
		"0123456789":                 IsDigit,
		"abcdefghijklmnopqrstuvwxyz": IsLetter,
		" !\"#$%&()*+,-./0123456789:;<=>?@ABCDEFGHIJKLMNOPQRSTUVWXYZ[\\]^_`abcdefghijklmnopqrstuvwxyz{|}~": IsQuotable,
	}
	for sort, is := range sorts {
		for b := range 256 {
			if want := strings.IndexByte(sort, byte(b)) >= 0; is(byte(b)) != want {
				t.Errorf("P3: the byte %d is one of %q: %v", b, sort, !want)
			}
		}
	}
}

func TestRun(t *testing.T) {
	for text, want := range map[string]int{"": 0, "a": 0, "1": 1, "12a3": 2, "12": 2, " 1": 0, "1é": 1} {
		if got := Run(text, IsDigit); got != want {
			t.Errorf("P3: digits at the head of %q: %d, want %d", text, got, want)
		}
	}
}

func TestAre(t *testing.T) {
	for text, want := range map[string]bool{"": true, "1": true, "12": true, "a": false, "1a": false, "a1": false, "12a3": false} {
		if got := Are(text, IsDigit); got != want {
			t.Errorf("P11: %q is digits: %v, want %v", text, got, want)
		}
	}
}
