package value

import (
	"errors"
	"math"
	"strings"
	"testing"

	"stagehand/api"
	"stagehand/fault"
)

func list(items ...Value) Value { return NewList(items) }

// samples are different from one another, each with what it weighs and how it is written.
var samples = []struct {
	value   Value
	weight  int
	written string
}{
	{Number(0), 1, "0"},
	{Number(-1), 1, "-1"},
	{Number(10), 1, "10"},
	{Number(math.MaxInt64), 1, "9223372036854775807"},
	{Number(math.MinInt64), 1, "-9223372036854775808"},
	{Text(""), 1, "''"},
	{Text("0"), 2, "'0'"},
	{Text(" "), 2, "' '"},
	{Text("()"), 3, "'()'"},
	{Text("a b ~\"!"), 8, "'a b ~\"!'"},
	{list(), 1, "()"},
	{list(list()), 2, "(())"},
	{list(Number(0)), 2, "(0)"},
	{list(Text("")), 2, "('')"},
	{list(list(), list()), 3, "(() ())"},
	{list(Number(1), Text("ab"), list(Number(-2), list())), 8, "(1 'ab' (-2 ()))"},
	{list(Number(1), Text("ab"), list(Number(-2), Text(""))), 8, "(1 'ab' (-2 ''))"},
	{list(Number(1), Text("ab")), 5, "(1 'ab')"},
	{list(Text("ab"), Number(1)), 5, "('ab' 1)"},
}

func TestSamples(t *testing.T) {
	for i, one := range samples {
		if got := Weigh(one.value); got != one.weight {
			t.Errorf("P6: %s weighs %d, want %d", one.written, got, one.weight)
		}
		if got := Write(one.value); got != one.written {
			t.Errorf("P6: written %s, want %s", got, one.written)
		}
		read, err := Read(one.written)
		if err != nil || !Same(read, one.value) || Weigh(read) != one.weight {
			t.Errorf("P6: Read(%s): %v, %v", one.written, read, err)
		}
		for j, other := range samples {
			if got := Same(one.value, other.value); got != (i == j) {
				t.Errorf("P6: %s and %s are the same: %v", one.written, other.written, got)
			}
		}
	}
}

// rests is how a value is written, told once more in another way, to hold Read against: it gives the rests of a text that may stand behind a value at its head.
func rests(text string) []string {
	var found []string
	for i := 1; i <= len(text); i++ {
		if isNumber(text[:i]) || len(text[:i]) > 1 && text[0] == '\'' && strings.Index(text[1:i], "'") == i-2 {
			found = append(found, text[i:])
		}
	}
	if strings.HasPrefix(text, "()") {
		found = append(found, text[2:])
	}
	if !strings.HasPrefix(text, "(") {
		return found
	}
	open := rests(text[1:])
	for len(open) > 0 {
		next := open[0]
		open = open[1:]
		if strings.HasPrefix(next, ")") {
			found = append(found, next[1:])
		}
		if strings.HasPrefix(next, " ") {
			open = append(open, rests(next[1:])...)
		}
	}
	return found
}

func isNumber(text string) bool {
	digits := strings.TrimPrefix(text, "-")
	return text == "0" || digits != "" && digits[0] != '0' && strings.Trim(digits, "01") == ""
}

func TestAllShortTexts(t *testing.T) {
	const bytes = "()' 01-"
	var extend func(text string, more int)
	extend = func(text string, more int) {
		want := false
		for _, rest := range rests(text) {
			want = want || rest == ""
		}
		read, err := Read(text)
		if (err == nil) != want || (read != nil) != want {
			t.Fatalf("P6: Read(%q): %v, %v", text, read, err)
		}
		if want && Write(read) != text {
			t.Fatalf("P6: %q is written %q", text, Write(read))
		}
		if more == 0 {
			return
		}
		for i := range bytes {
			extend(text+bytes[i:i+1], more-1)
		}
	}
	extend("", 7)
}

func TestReadBytes(t *testing.T) {
	for b := range 256 {
		written := "'" + string([]byte{byte(b)}) + "'"
		read, err := Read(written)
		if good := 32 <= b && b <= 126 && b != '\''; (err == nil) != good || good && Write(read) != written {
			t.Errorf("P6: Read(%q): %v, %v", written, read, err)
		}
		single := string([]byte{byte(b)})
		alone, err := Read(single)
		if good := '0' <= b && b <= '9'; (err == nil) != good || good && !Same(alone, Number(b-'0')) {
			t.Errorf("P6: Read(%q): %v, %v", single, alone, err)
		}
	}
}

func TestReadWeight(t *testing.T) {
	zeros := func(many int) string { return strings.TrimSuffix(strings.Repeat("0 ", many), " ") }
	for _, size := range []int{api.MaxWeight - 1, api.MaxWeight, api.MaxWeight + 1, 100_000} {
		for _, written := range []string{
			"'" + strings.Repeat("x", size-1) + "'",
			"(" + zeros(size-1) + ")",
			strings.Repeat("(", size) + strings.Repeat(")", size),
			"(" + zeros(size-3) + " (0))",
			"('" + strings.Repeat("x", size-3) + "' 0)",
			"(0 '" + strings.Repeat("x", size-3) + "')",
		} {
			read, err := Read(written)
			if good := size <= api.MaxWeight; (err == nil) != good || good && (Weigh(read) != size || Write(read) != written) {
				t.Errorf("P6: a value of weight %d, %.20s: %v", size, written, err)
			}
			if err != nil && !errors.Is(err, fault.Weight) {
				t.Errorf("P6: a value of weight %d, %.20s: %v", size, written, err)
			}
		}
	}
}

func TestReadPlaces(t *testing.T) {
	for _, marked := range []string{"@", "@ ", "0@ ", "@01", "@-", "@-0", "(0@", "(@", "(@ )", "(0 @)", "(0@,1)", "(0 @ 1)", "(1 @9223372036854775808)", "'a@", "'a@\n'", "()@()", "(1 (@b))"} {
		written := strings.Replace(marked, "@", "", 1)
		_, err := Read(written)
		var at fault.At
		if want := strings.Index(marked, "@"); !errors.Is(err, api.ErrFault) || !errors.As(err, &at) || at.Byte != want {
			t.Errorf("P6: Read(%q): %v, want a fault at %d", written, err, want)
		}
	}
}

func TestItemsAreNotWrittenInto(t *testing.T) {
	room := []Value{Number(1), Number(2), Number(3)}
	short := NewList(room[:2])
	if longer := append(short.Items(), Number(9)); len(longer) != 3 || room[2] != Number(3) {
		t.Errorf("P2: what stands behind a list was written into: %v", room)
	}
}
