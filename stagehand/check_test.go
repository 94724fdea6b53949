package stagehand_test

import (
	"strconv"
	"strings"
	"sync"
	"testing"

	"stagehand/api"
	"stagehand/stagehand"
)

// counter is the document's example.
const counter = "(fun odd (b) (if b 'three' 'other')) (fun init () 0) (fun update (m n) (add n m)) (fun view (n) (list 'el' 'p' (list (list 'on' 'up' 1) (list 'id' 'x')) (list n (list 'lazy' 'odd' (eq n 3)))))"

// every has each form once.
const every = "(fun f (x) x)\n(fun g (a b)(list (if a b -1) (let c a (let a c a)) (add a b) (sub a b) (mul a b) (eq a b) (less a b) (len a) (at a b) (set a b 'x') (join a b) (list) (call f a) (map f b)))" + three

func TestP1EndsAtAnyPrefix(t *testing.T) {
	for _, text := range []string{counter, every} {
		for i := range text {
			wantShaped(t, text[:i])
			wantShaped(t, text[i:])
			wantShaped(t, text[:i]+text[i+1:])
		}
	}
}

func TestP1EndsAtAnyByte(t *testing.T) {
	for i := range every {
		for b := range 256 {
			wantShaped(t, every[:i]+string([]byte{byte(b)})+every[i+1:])
		}
	}
}

func TestP1EndsAtLongTexts(t *testing.T) {
	for _, piece := range []string{"(", ")", "'", "-", "0", "a", "(fun ", "(fun f () ", "(fun f () (list ", "(fun f () (let a ", "\x00", "é", "\n"} {
		for _, size := range []int{api.MaxText - 1, api.MaxText, api.MaxText + 1, 1_000_000} {
			wantShaped(t, strings.Repeat(piece, size/len(piece)+1)[:size])
		}
	}
}

// wantShaped asks that the call ends, that its error has a cause, and that the place is one that this cause may have.
func wantShaped(t *testing.T, text string) {
	t.Helper()
	cause, place := causeOf(t, text, stagehand.Check(text))
	ok := 0 <= place && place <= len(text)
	switch cause {
	case nil:
	case api.ErrLong:
		ok = place == 0 && len(text) > api.MaxText
	case api.ErrMain:
		ok = place == len(text)
	case api.ErrDeep:
		ok = ok && strings.HasPrefix(text[place:], "(")
	case api.ErrText:
		ok = ok && !strings.HasPrefix(text[place:], " ") && !strings.HasPrefix(text[place:], "\n")
	default:
		ok = place < len(text) && 'a' <= text[place] && text[place] <= 'z'
	}
	if !ok {
		t.Errorf("P1: Check(%.90q): %v at %d", text, cause, place)
	}
}

func TestP1TheErrorNamedFirst(t *testing.T) {
	tooLong := strings.Repeat(" ", api.MaxText)
	wantAt(t, "(fun f () ;"+tooLong, api.ErrLong, 0)
	wantAt(t, "(fun f (x x) y)"+tooLong, api.ErrLong, 0)
	wantMarked(t, "(fun f (x x) (call none)) @)", api.ErrText)
	wantMarked(t, "(fun f (x x) (call none)"+"@", api.ErrText)
	wantMarked(t, "(fun f () (list x "+strings.Repeat("(list ", 14)+"@(", api.ErrDeep)
	wantMarked(t, "(fun init () @x)", api.ErrName)
	wantMarked(t, "(fun init () 0) (fun @init () 0)", api.ErrTwice)
	wantMarked(t, "(fun f () 0) (fun g () (call @f 1))", api.ErrArity)
}

func TestP2TheSameAnswerFromManyAtOnce(t *testing.T) {
	texts := []string{counter, every, "(fun f () g)", "(fun f (x x) 0)", "(fun f () (add 1))", "", "(fun f () 1) (fun g () (call f 2))"}
	tell := func(text string) string {
		if err := stagehand.Check(text); err != nil {
			return err.Error()
		}
		return ""
	}
	var workers sync.WaitGroup
	for _, text := range texts {
		want := tell(text)
		for range 4 {
			workers.Add(1)
			go func() {
				defer workers.Done()
				for range 50 {
					if got := tell(text); got != want {
						t.Errorf("P2: Check(%q): %s, then %s", text, want, got)
					}
				}
			}()
		}
	}
	workers.Wait()
}

func TestP3Long(t *testing.T) {
	fill := func(size int) string { return three + strings.Repeat("\n", size-len(three)) }
	wantRight(t, fill(api.MaxText))
	wantAt(t, fill(api.MaxText+1), api.ErrLong, 0)
	wantAt(t, strings.Repeat("x", api.MaxText), api.ErrText, 0)
	wantAt(t, strings.Repeat("x", api.MaxText+1), api.ErrLong, 0)
}

func TestP3Right(t *testing.T) {
	for _, text := range []string{
		counter, every, three, "\n " + three + " \n",
		"(fun init()0)(fun update(m n)n)(fun view(n)(list n'a''b'-1-2 3 n(list)n))",
		"(fun abcdefgh () -123456789)" + three,
		"(fun f () 'abcdefghijklmnopqrst') (fun g () ' ~!\"') (fun h () '')" + three,
		"(fun f () 000000000) (fun g () -0)" + three,
		"(fun funs () 1) (fun lis (ifs lets) (call funs))" + three,
	} {
		wantRight(t, text)
	}
}

func TestP3WrongTokens(t *testing.T) {
	for _, token := range []string{
		"abcdefghi", "1234567890", "-1234567890", "-", "- 1", "--1", "'abcdefghijklmnopqrstu'", "'", "'a", "'a\n'", "'\x7f'", "'\x1f'", "'é'",
		"X", "_", ";", "\"a\"", "+1", ".5", "\t", "\r", "\x00", "\xff", "[", "#",
	} {
		wantMarked(t, "@"+token, api.ErrText)
		wantMarked(t, "(@"+token, api.ErrText)
		wantMarked(t, "(fun @"+token+" () 1)", api.ErrText)
		wantMarked(t, "(fun f (x @"+token+") 1)", api.ErrText)
		wantMarked(t, "(fun f () @"+token+")", api.ErrText)
		wantMarked(t, "(fun f () (list 1 @"+token+"))", api.ErrText)
		wantMarked(t, three+"@"+token, api.ErrText)
	}
}

func TestP3EndsTooSoon(t *testing.T) {
	tokens := strings.Fields("( fun f ( x y ) ( list ( if x y 1 ) ( let z x z ) ( add x y ) ( len x ) ( set x y 1 ) ( call g x ) ( map g 'a' ) ) )")
	for i := 1; i < len(tokens); i++ {
		for _, tail := range []string{"", " ", "\n\n"} {
			wantMarked(t, strings.Join(tokens[:i], " ")+tail+"@", api.ErrText)
			wantMarked(t, three+strings.Join(tokens[:i], " ")+tail+"@", api.ErrText)
		}
	}
}

func TestP3TheFirstOfTwoWrongTokens(t *testing.T) {
	for _, marked := range []string{
		"(fun @list ;", "(fun f @1 ;", "(fun f (@1 ;", "(fun f () @) ;", "(fun f () 1 @1 ;", "(fun f () (@a ;", "(fun f () (let @if ;", "(fun f () (len 1 @2 ;", "(@1 ;", "@a ;",
		"(fun f () @; (", "(fun f (@; 1", "(fun f () (list @'a", "(fun f () (@'list' 1))", "(@'fun' f () 1)",
	} {
		wantMarked(t, marked, api.ErrText)
	}
}

func TestP3ReservedWordsAreNoNames(t *testing.T) {
	for _, word := range strings.Fields("fun list if let add sub mul eq less len at set join call map") {
		wantMarked(t, "(fun @"+word+" () 1)"+three, api.ErrText)
		wantMarked(t, "(fun f (@"+word+") 1)"+three, api.ErrText)
		wantMarked(t, "(fun f () @"+word+")"+three, api.ErrText)
		wantMarked(t, "(fun f () (let @"+word+" 1 1))"+three, api.ErrText)
		wantMarked(t, "(fun f () (call @"+word+"))"+three, api.ErrText)
		wantMarked(t, "(fun f () (map @"+word+" 1))"+three, api.ErrText)
	}
}

func TestP3Deep(t *testing.T) {
	for _, form := range [][2]string{
		{"(list 1 ", " 2)"}, {"(if ", " 1 2)"}, {"(if 1 2 ", ")"}, {"(let a ", " 1)"}, {"(let a 1 ", ")"}, {"(add ", " 1)"}, {"(add 1 ", ")"},
		{"(len ", ")"}, {"(set ", " 1 2)"}, {"(set 1 2 ", ")"}, {"(call g ", ")"}, {"(map g ", ")"},
	} {
		nested := func(many int, inner string) string {
			return "(fun g (x) x) (fun f () " + strings.Repeat(form[0], many) + inner + strings.Repeat(form[1], many) + ")" + three
		}
		wantRight(t, nested(api.MaxDepth-1, "1"))
		wantMarked(t, nested(api.MaxDepth-1, "@(list)"), api.ErrDeep)
		wantMarked(t, nested(api.MaxDepth-1, "@("), api.ErrDeep)
		wantMarked(t, nested(api.MaxDepth-1, "@(;"), api.ErrDeep)
		wantMarked(t, nested(api.MaxDepth-2, "(@("), api.ErrText)
		wantMarked(t, nested(api.MaxDepth-1, "@;("), api.ErrText)
	}
	full := strings.Repeat("(list ", 15) + strings.Repeat(")", 15)
	wantRight(t, "(fun f () "+full+") (fun g () "+full+")"+three)
	wantMarked(t, "(fun f () "+strings.Repeat("(list ", 14)+"(len 1 @(", api.ErrText)
}

func TestP4Twice(t *testing.T) {
	for _, marked := range []string{
		"(fun f (x @x) 0)", "(fun f (x y @x) y)", "(fun f (x y z @y z) y)", "(fun f () 1) (fun @f (x) 2)", "(fun f () 1) (fun g () 1) (fun @f () 2)",
		"(fun f () 1) (fun @f (x x) y)", "(fun f (x @x) z)", "(fun f () 1) (fun @f () (call f 1))", three + "(fun @view (n) n)",
	} {
		wantMarked(t, marked, api.ErrTwice)
	}
	for _, text := range []string{
		"(fun f (f) f)", "(fun f (x) x) (fun g (f x) (call f f))", "(fun f (x) (let x 1 (let x 2 x)))", "(fun f (x) 1) (fun g (x) 1)", "(fun f () (let f 1 f))",
	} {
		wantRight(t, text+three)
	}
}

func TestP4Name(t *testing.T) {
	for _, marked := range []string{
		"(fun f () @g)", "(fun f (x) @f)", "(fun g () 1) (fun f (x) (list x @g))", "(fun f (x) x) (fun g (y) @x)",
		"(fun f () (let x @x 1))", "(fun f () (list (let x 1 x) @x))", "(fun f () (let x (let y 1 y) @y))", "(fun f () (list @x (let x 1 x)))",
		"(fun f () (call @f))", "(fun f (x) (map @f x))", "(fun f () (call @g)) (fun g () 1)", "(fun f () (map @g (list))) (fun g (x) 1)", "(fun f (x) (call @x))", "(fun f () (let g 1 (call @g)))",
		"(fun f () (call @g (call h x)))", "(fun f () (map @g x))",
		"(fun f (x) (if x x @y))", "(fun f (x) (set x @y z))", "(fun f (x) (at x @y))", "(fun f (x) (len @y))", "(fun f (x) x) (fun g () (call f @y))", "(fun f (x) x) (fun g () (map f @y))",
	} {
		wantMarked(t, marked, api.ErrName)
		wantMarked(t, marked+three, api.ErrName)
	}
	wantRight(t, "(fun f (x) (let y x (let x y (add x y))))"+three)
}

func TestP4SiblingLetsDoNotMix(t *testing.T) {
	wantRight(t, "(fun f (x) (let a 1 (list (let b 2 (add a b)) (let c 3 (add a c)) x a)))"+three)
	wantMarked(t, "(fun f (x) (let a 1 (list (let b 2 (add a b)) (let c 3 (add @b c)))))"+three, api.ErrName)
	wantMarked(t, "(fun f (x) (let a (let b 1 b) (let c 2 @b)))"+three, api.ErrName)
}

func TestP4Arity(t *testing.T) {
	for parameters := range 4 {
		for arguments := range 4 {
			text := "(fun f (" + strings.Join([]string{"a", "b", "c"}[:parameters], " ") + ") 1) (fun g () (call @f" + strings.Repeat(" 1", arguments) + "))" + three
			if parameters == arguments {
				wantRight(t, strings.Replace(text, "@", "", 1))
			} else {
				wantMarked(t, text, api.ErrArity)
			}
		}
		text := "(fun f (" + strings.Join([]string{"a", "b", "c"}[:parameters], " ") + ") 1) (fun g () (map @f (list)))" + three
		if parameters == 1 {
			wantRight(t, strings.Replace(text, "@", "", 1))
		} else {
			wantMarked(t, text, api.ErrArity)
		}
	}
	wantMarked(t, "(fun f (x) x) (fun g () (call @f 1 (call none)))", api.ErrArity)
	wantMarked(t, "(fun f () 1) (fun g () (map @f x))", api.ErrArity)
}

func TestP4TheFirstOfTwo(t *testing.T) {
	definitions := []struct {
		marked string
		cause  error
	}{
		{"(fun a% (x @x) 0)", api.ErrTwice}, {"(fun b% () @x)", api.ErrName}, {"(fun c% () (call @none))", api.ErrName}, {"(fun d% () (map @none 1))", api.ErrName},
		{"(fun e% () 1) (fun f% () (call @e% 1))", api.ErrArity}, {"(fun g% () 1) (fun h% () (map @g% 1))", api.ErrArity}, {"(fun i% () 1) (fun @i% () 1)", api.ErrTwice},
	}
	for _, first := range definitions {
		for _, second := range definitions {
			ahead, place := unmark(strings.ReplaceAll(first.marked, "%", "x"))
			behind, _ := unmark(strings.ReplaceAll(second.marked, "%", "y"))
			wantAt(t, ahead+behind, first.cause, place)
			wantAt(t, three+ahead+behind, first.cause, len(three)+place)
			wantAt(t, ahead+behind+")", api.ErrText, len(ahead+behind))
		}
	}
}

func TestP5Main(t *testing.T) {
	parameters := func(many int) string { return strings.Join([]string{"a", "b", "c"}[:many], " ") }
	for i := range 4 {
		for u := range 4 {
			for v := range 4 {
				text := "(fun init (" + parameters(i) + ") 0)(fun update (" + parameters(u) + ") 0)(fun view (" + parameters(v) + ") 0) "
				if i == 0 && u == 2 && v == 1 {
					wantRight(t, text)
				} else {
					wantMarked(t, text+"@", api.ErrMain)
				}
			}
		}
	}
	for _, marked := range []string{"@", " \n@", "(fun init () 0)@", "(fun f () 0) @", "(fun update (m n) n)(fun view (n) n)@", "(fun init () 0)(fun view (n) n)@", "(fun init () 0)(fun update (m n) n)\n@"} {
		wantMarked(t, marked, api.ErrMain)
	}
}

func TestP5AnyOrder(t *testing.T) {
	parts := []string{"(fun init () 0)", "(fun update (m n) n)", "(fun view (n) n)"}
	for i := range parts {
		wantRight(t, parts[i]+parts[(i+1)%3]+parts[(i+2)%3])
		wantRight(t, parts[i]+parts[(i+2)%3]+parts[(i+1)%3])
	}
}

func TestExamples(t *testing.T) {
	wantRight(t, counter)
	for _, example := range []struct {
		text  string
		cause error
		place int
	}{
		{"(fun init () 0)", api.ErrMain, 15}, {"(fun f () g)", api.ErrName, 10}, {"(fun f () (call f))", api.ErrName, 16},
		{"(fun f (x x) 0)", api.ErrTwice, 10}, {"(fun f () 1) (fun g () (call f 2))", api.ErrArity, 29}, {"(fun f () (add 1))", api.ErrText, 16},
	} {
		wantAt(t, example.text, example.cause, example.place)
	}
}

func TestP3ManyFunctions(t *testing.T) {
	var text strings.Builder
	text.WriteString(three)
	for i := 0; text.Len() < api.MaxText-20; i++ {
		letters := strings.Map(func(r rune) rune { return r - '0' + 'a' }, strconv.Itoa(i))
		text.WriteString("(fun z" + letters + " () 1)")
	}
	wantRight(t, text.String())
}
