package stagehand_test

import (
	"strings"
	"testing"

	"stagehand/api"
	"stagehand/stagehand"
)

// step is the grammar written once more in another way, to hold Check against: of what may follow, a letter each, the nearest first, it tells what may follow behind one more token.
// P: definitions; F: "fun"; N: a name; n: names and ")"; E: an expr; e: exprs and ")"; f: a form and ")".
func step(expected string, token string) (string, bool) {
	rest := expected[1:]
	isAtom := token == "a" || token == "1" || token == "'t'"
	switch expected[0] {
	case 'P':
		return "FN(nE)P", token == "("
	case 'F':
		return rest, token == "fun"
	case 'N':
		return rest, token == "a"
	case '(', ')':
		return rest, token == expected[:1]
	case 'n':
		if token == ")" {
			return rest, true
		}
		return expected, token == "a"
	case 'e':
		if token == ")" {
			return rest, true
		}
		return step("E"+expected, token)
	case 'E':
		if isAtom {
			return rest, true
		}
		return "f" + rest, token == "("
	}
	form := map[string]string{"list": "e", "if": "EEE)", "let": "NEE)", "less": "EE)", "len": "E)", "set": "EEE)", "call": "Ne", "map": "NE)"}[token]
	return form + rest, form != ""
}

func TestP3AllShortPrograms(t *testing.T) {
	tokens := strings.Fields("( ) fun list if let less len set call map a 1 't'")
	var extend func(text string, expected string, more int)
	extend = func(text string, expected string, more int) {
		cause, place := causeOf(t, text, stagehand.Check(text))
		if ended := cause == api.ErrText && place == len(text); ended == (expected == "P") || cause == api.ErrText && !ended {
			t.Fatalf("P3: Check(%q): %v at %d, but %q may follow", text, cause, place, expected)
		}
		if more == 0 {
			return
		}
		for _, token := range tokens {
			longer := text + token + " "
			next, ok := step(expected, token)
			if ok {
				extend(longer, next, more-1)
				continue
			}
			wantAt(t, longer, api.ErrText, len(text))
			wantAt(t, longer+";", api.ErrText, len(text))
		}
	}
	extend("", "P", 8)
	extend("(fun f (a) ", "E)P", 5)
	extend("(fun f (a) (list (let a ", "EE)e)P", 4)
	extend("(fun f (a) a) ", "P", 7)
}
