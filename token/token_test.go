package token

import (
	"errors"
	"slices"
	"strings"
	"testing"

	"stagehand/api"
)

// readAll stops at the end, or at the first wrong token.
func readAll(text string) ([]Token, error) {
	r := NewReader(text)
	var read []Token
	for {
		next, err := r.Next()
		if err != nil || next.Kind == End {
			return read, err
		}
		read = append(read, next)
	}
}

func TestTokens(t *testing.T) {
	cases := map[string][]Token{
		"":               nil,
		" \n ":           nil,
		"()":             {{Open, 0, "("}, {Close, 1, ")"}},
		"\n ab\n":        {{Word, 2, "ab"}},
		"abcdefgh":       {{Word, 0, "abcdefgh"}},
		"0 -0 007":       {{Number, 0, "0"}, {Number, 2, "-0"}, {Number, 5, "007"}},
		"-123456789":     {{Number, 0, "-123456789"}},
		"1-2":            {{Number, 0, "1"}, {Number, 1, "-2"}},
		"a1b":            {{Word, 0, "a"}, {Number, 1, "1"}, {Word, 2, "b"}},
		"''":             {{Text, 0, ""}},
		"' ~('x":         {{Text, 0, " ~("}, {Word, 5, "x"}},
		"'a''b'":         {{Text, 0, "a"}, {Text, 3, "b"}},
		"(fun f ('(') ~": {{Open, 0, "("}, {Word, 1, "fun"}, {Word, 5, "f"}, {Open, 7, "("}, {Text, 8, "("}, {Close, 11, ")"}},
	}
	for text, want := range cases {
		if got, _ := readAll(text); !slices.Equal(got, want) {
			t.Errorf("P3: tokens of %q: %v, want %v", text, got, want)
		}
	}
}

func TestWrongTokens(t *testing.T) {
	for _, marked := range []string{
		"@abcdefghi", "a @abcdefghij", "@1234567890", "@-1234567890", "@-", "@- 1", "@-a", "1 @--1",
		"@'", "@'a", "@'a\n'", "@'a\x7f'", "@'a\x1f'", "@'é'", "@'" + strings.Repeat("a", 21) + "'", "@'" + strings.Repeat("a", 20),
		"@\t", "@\r", "@A", "a@A", "@_", "@\x00", "@\x7f", "@\xff", "1@.5", "@+1", "@\"a\"", "()@[",
	} {
		place := strings.Index(marked, "@")
		text := strings.Replace(marked, "@", "", 1)
		_, err := readAll(text)
		var wrong api.Wrong
		if !errors.Is(err, api.ErrText) || !errors.As(err, &wrong) || wrong.Place != place {
			t.Errorf("P3: tokens of %q: %v, want ErrText at %d", text, err, place)
		}
	}
}

func TestEveryFirstByte(t *testing.T) {
	for b := range 256 {
		_, err := readAll(string([]byte{byte(b)}))
		good := strings.IndexByte(" \n()0123456789abcdefghijklmnopqrstuvwxyz", byte(b)) >= 0
		if (err == nil) != good {
			t.Errorf("P3: the byte %d alone: %v", b, err)
		}
	}
}

func TestEveryQuotedByte(t *testing.T) {
	for b := range 256 {
		_, err := readAll("'" + string([]byte{byte(b)}) + "'")
		good := 32 <= b && b <= 126 && b != '\''
		if (err == nil) != good {
			t.Errorf("P3: the byte %d in a text: %v", b, err)
		}
	}
}

func TestEndStays(t *testing.T) {
	r := NewReader("a ")
	for i, want := range []Token{{Word, 0, "a"}, {End, 2, ""}, {End, 2, ""}} {
		if got, err := r.Next(); got != want || err != nil {
			t.Errorf("P3: Next %d: %v, %v, want %v", i, got, err, want)
		}
	}
}
