package stagehand_test

import (
	"errors"
	"math"
	"math/big"
	"strconv"
	"strings"
	"sync"
	"testing"

	"stagehand/api"
	"stagehand/stagehand"
)

// bulk takes 100 steps of its own.
var bulk = "(fun bulk (x) (len (list" + strings.Repeat(" 0", 98) + ")))"

// helpers are functions to be called.
var helpers = "(fun id (x) x) (fun dup (x) (list x x)) (fun sum (a b) (add a b)) (fun five () 5) (fun bad (x) (len 5)) " + bulk

// bodied is a program whose function f has as many of the parameters x, y, z, and this body.
func bodied(body string, parameters int) string {
	return three + helpers + "(fun f (" + strings.Join([]string{"x", "y", "z"}[:parameters], " ") + ") " + body + ")"
}

// wantGiven asks what f gives.
func wantGiven(t *testing.T, body, want string, args ...string) {
	t.Helper()
	got, err := stagehand.Reckon(bodied(body, len(args)), "f", args)
	if got != want || err != nil {
		t.Errorf("P6: %.150s of %.80q: %.80s, %v, want %.80s", body, args, got, err, want)
	}
}

// wantFaulty asks that f gives nothing.
func wantFaulty(t *testing.T, body string, args ...string) {
	t.Helper()
	wantNothing(t, bodied(body, len(args)), "f", args, api.ErrFault)
}

// wantNothing asks for one error, and no other one.
func wantNothing(t *testing.T, text, name string, args []string, want error) {
	t.Helper()
	got, err := stagehand.Reckon(text, name, args)
	if got != "" || !errors.Is(err, want) {
		t.Errorf("P6: Reckon(%.90q, %.20q, %.80q): %.50q, %v, want %v", text, name, args, got, err, want)
	}
	for _, cause := range append([]error{api.ErrFault, api.ErrPath}, causes...) {
		if cause != want && errors.Is(err, cause) {
			t.Errorf("P1: Reckon(%.90q, %.20q, %.80q): %v is two errors", text, name, args, err)
		}
	}
}

// row is a list of so many values.
func row(many int, item string) string {
	return "(" + strings.TrimSuffix(strings.Repeat(item+" ", many), " ") + ")"
}

// quoted is a text that weighs so much.
func quoted(weight int) string { return "'" + strings.Repeat("x", weight-1) + "'" }

func TestP6Exprs(t *testing.T) {
	for _, one := range [][]string{
		{"0", "0"}, {"-999999999", "-999999999"}, {"-007", "-7"}, {"-0", "0"}, {"''", "''"}, {"'a (1) '", "'a (1) '"},
		{"x", "-5", "-5"}, {"y", "'b'", "'a'", "'b'"}, {"z", "()", "1", "2", "()"},
		{"(list)", "()"}, {"(list x (list y) x)", "(1 ('a') 1)", "1", "'a'"}, {"(list(list(list)))", "((()))"},
		{"(if x y z)", "'then'", "1", "'then'", "'else'"}, {"(if x y z)", "'else'", "0", "'then'", "'else'"},
		{"(if x y z)", "'then'", "-1", "'then'", "'else'"}, {"(if x y z)", "'then'", "-9223372036854775808", "'then'", "'else'"},
		{"(let a x (list a a))", "(3 3)", "3"}, {"(let a 1 2)", "2"},
		{"(add x y)", "5", "2", "3"}, {"(sub x y)", "-1", "2", "3"}, {"(mul x y)", "-6", "2", "-3"},
		{"(eq x y)", "1", "(1 'a' ())", "(1 'a' ())"}, {"(eq x y)", "0", "(1 'a' ())", "(1 'a' (0))"},
		{"(less x y)", "1", "-1", "0"}, {"(less x y)", "0", "0", "-1"}, {"(less x y)", "0", "0", "0"},
		{"(len x)", "0", "''"}, {"(len x)", "3", "'a b'"}, {"(len x)", "0", "()"}, {"(len x)", "2", "((1 2 3) 'abc')"},
		{"(at x y)", "7", "(7 8 9)", "0"}, {"(at x y)", "(9)", "(7 8 (9))", "2"},
		{"(set x y z)", "(7 'n' 9)", "(7 8 9)", "1", "'n'"}, {"(set x y z)", "(())", "(7)", "0", "()"},
		{"(join x y)", "'abc'", "'ab'", "'c'"}, {"(join x y)", "''", "''", "''"}, {"(join x y)", "(1 2 (3))", "(1 2)", "((3))"}, {"(join x y)", "()", "()", "()"},
		{"(call five)", "5"}, {"(call sum x (call sum x y))", "7", "2", "3"}, {"(call dup (call dup x))", "((1 1) (1 1))", "1"},
		{"(map dup x)", "((1 1) ('a' 'a') (() ()))", "(1 'a' ())"}, {"(map dup x)", "()", "()"}, {"(map bad x)", "()", "()"},
	} {
		wantGiven(t, one[0], one[1], one[2:]...)
	}
}

func TestP6TheNearestName(t *testing.T) {
	wantGiven(t, "(let x 2 x)", "2", "1")
	wantGiven(t, "(let x (add x 1) (let x (add x 1) x))", "3", "1")
	wantGiven(t, "(list (let x 2 x) x (let x 3 (let y x (list x y))) x)", "(2 1 (3 3) 1)", "1")
	wantGiven(t, "(let a (let a 1 (add a 1)) (list a (let a 5 a) a))", "(2 5 2)")
	wantGiven(t, "(let id 4 (call id (add id x)))", "5", "1")
	wantGiven(t, "(let a 10 (let b 20 (call sum b 1)))", "21")
	wantGiven(t, "(let x 7 (list (map dup y) (call id y) x))", "(((1 1)) (1) 7)", "0", "(1)")
}

func TestP6NumbersWrap(t *testing.T) {
	edges := []int64{0, 1, -1, 2, -2, 3, 10, math.MaxInt32, math.MinInt32, 1 << 32, math.MaxInt64, math.MaxInt64 - 1, math.MinInt64, math.MinInt64 + 1, 3037000500, -3037000500, 0x5555555555555555}
	for _, a := range edges {
		for _, b := range edges {
			x, y := big.NewInt(a), big.NewInt(b)
			want := []string{wrapped(new(big.Int).Add(x, y)), wrapped(new(big.Int).Sub(x, y)), wrapped(new(big.Int).Mul(x, y)), "0", "0"}
			if x.Cmp(y) < 0 {
				want[3] = "1"
			}
			if x.Cmp(y) == 0 {
				want[4] = "1"
			}
			wantGiven(t, "(list (add x y) (sub x y) (mul x y) (less x y) (eq x y))", "("+strings.Join(want, " ")+")", x.String(), y.String())
		}
	}
}

// wrapped is the number of 64 bits with a sign that is left of a greater one.
func wrapped(n *big.Int) string {
	bits := new(big.Int).Lsh(big.NewInt(1), 64)
	n.Mod(n, bits)
	if n.Bit(63) == 1 {
		n.Sub(n, bits)
	}
	return n.String()
}

func TestP6SameValues(t *testing.T) {
	values := []string{"0", "1", "-1", "''", "'0'", "'1'", "' '", "'()'", "'(0)'", "()", "(0)", "(1)", "('0')", "('')", "(())", "(() ())", "((()))", "(0 0)", "(0 1)", "(1 0)", "((0) 0)", "(0 (0))", "((0 0))"}
	for _, a := range values {
		for _, b := range values {
			want := "0"
			if a == b {
				want = "1"
			}
			wantGiven(t, "(eq x y)", want, a, b)
		}
	}
}

// TestP6Kinds goes through each operation with each kind of value in each place.
func TestP6Kinds(t *testing.T) {
	kinds := map[string]string{"n": "0", "t": "'ab'", "l": "(1 2)"}
	right := map[string]string{
		"(add x y)": "nn", "(sub x y)": "nn", "(mul x y)": "nn", "(less x y)": "nn", "(at x y)": "ln", "(join x y)": "tt ll",
		"(eq x y)": "nn nt nl tn tt tl ln lt ll", "(set x y 1)": "ln", "(set (list 1 2) x y)": "nn nt nl", "(list x y)": "nn nt nl tn tt tl ln lt ll",
		"(if x y 1)": "nn nt nl", "(if x 1 y)": "nn nt nl", "(list (len x) y)": "tn tt tl ln lt ll", "(list (map id x) y)": "ln lt ll",
	}
	for body, asked := range right {
		for first, x := range kinds {
			for second, y := range kinds {
				_, err := stagehand.Reckon(bodied(body, 2), "f", []string{x, y})
				if strings.Contains(asked, first+second) != (err == nil) {
					t.Errorf("P6: %s of %s and %s: %v", body, x, y, err)
				}
				if err != nil {
					wantFaulty(t, body, x, y)
				}
			}
		}
	}
}

func TestP6PlacesInLists(t *testing.T) {
	for many := range 4 {
		list := row(many, "7")
		for _, place := range []int64{-1, 0, 1, 2, 3, 4, 1 << 32, 1<<32 + 1, -1 << 32, math.MaxInt64, math.MinInt64} {
			index := strconv.FormatInt(place, 10)
			if place >= 0 && place < int64(many) {
				wantGiven(t, "(at x y)", "7", list, index)
				wantGiven(t, "(at (set x y 'new') y)", "'new'", list, index)
				wantGiven(t, "(len (set x y 'new'))", strconv.Itoa(many), list, index)
			} else {
				wantFaulty(t, "(at x y)", list, index)
				wantFaulty(t, "(set x y 'new')", list, index)
			}
		}
	}
}

func TestP6ListsAreNotChanged(t *testing.T) {
	wantGiven(t, "(let y (set x 0 9) (let z (join x (list 4)) (let w (join x (list 5)) (list x y z w))))", "((1 2) (9 2) (1 2 4) (1 2 5))", "(1 2)")
}

func TestP6FaultsInEachPlace(t *testing.T) {
	for _, body := range []string{
		"@", "(list @)", "(list 1 @ 2)", "(if @ 1 2)", "(if 1 @ 2)", "(if 0 1 @)", "(let a @ 1)", "(let a 1 @)", "(add @ 1)", "(add 1 @)", "(eq @ 1)", "(eq 1 @)",
		"(at @ 0)", "(at (list 1) @)", "(join @ '')", "(join '' @)", "(len @)", "(set @ 0 1)", "(set (list 1) @ 1)", "(set (list 1) 0 @)", "(call id @)", "(call sum @ 1)", "(call sum 1 @)", "(map id @)", "(list (map id (list @)))",
	} {
		for _, faulty := range []string{"(len 5)", "(call bad 1)", "(map bad (list 1))", "(at (list) 0)", "(add 'a' 1)"} {
			wantFaulty(t, strings.Replace(body, "@", faulty, 1))
		}
	}
}

func TestP6TheOtherOneIsNotReckoned(t *testing.T) {
	wantGiven(t, "(if 1 2 (len 5))", "2")
	wantGiven(t, "(if 0 (len 5) 2)", "2")
	wantGiven(t, "(if x (if 0 (call bad 1) 3) (call bad 1))", "3", "-1")
}

func TestP6Weight(t *testing.T) {
	const most = api.MaxWeight
	for _, one := range []struct {
		body string
		own  int // what is added to the argument's weight
	}{
		{"(list x)", 1}, {"(list x 0 '')", 3}, {"(list (list x))", 2}, {"(list 'abc' x)", 5}, {"(join x 'abc')", 3}, {"(join 'abc' x)", 3}, {"(join x '')", 0},
		{"(set (list 1 2 3) 1 x)", 3}, {"(call id x)", 0}, {"(let a x a)", 0}, {"(if 1 x 0)", 0}, {"(map id (list x))", 1}, {"(map id (list 1 x))", 2}, {"(list (call id x))", 1}, {"(at (list x 0) 0)", 2}, {"x", 0},
	} {
		if got, err := stagehand.Reckon(bodied(one.body, 1), "f", []string{quoted(most - one.own)}); err != nil || got == "" {
			t.Errorf("P6: %s at the bound: %v", one.body, err)
		}
		if one.own > 0 {
			wantFaulty(t, one.body, quoted(most-one.own+1))
			wantFaulty(t, "(len "+one.body+")", quoted(most-one.own+1))
			wantFaulty(t, "(let a "+one.body+" 1)", quoted(most-one.own+1))
			wantFaulty(t, "(eq "+one.body+" 0)", quoted(most-one.own+1))
			wantGiven(t, "(if 1 1 "+one.body+")", "1", quoted(most-one.own+1))
		}
	}
	wantGiven(t, "(join x y)", row(most-1, "0"), row(300, "0"), row(most-301, "0"))
	wantFaulty(t, "(join x y)", row(300, "0"), row(most-300, "0"))
	wantGiven(t, "(map dup x)", row((most-1)/3, "(0 0)"), row((most-1)/3, "0"))
	wantFaulty(t, "(map dup x)", row((most-1)/3+1, "0"))
	wantGiven(t, "(set x 0 (list))", "(() 0)", "('ab' 0)")
	wantGiven(t, "(set x 0 'ab')", "('ab' "+strings.TrimPrefix(row(most-4, "0"), "("), row(most-3, "0"))
	wantFaulty(t, "(set x 0 'abc')", row(most-3, "0"))
}

// TestP6Steps asks of each body how many steps it is: with others ahead that make MaxSteps of them in all it is reckoned, with one more it is a fault.
func TestP6Steps(t *testing.T) {
	for body, steps := range map[string]int{
		"1": 1, "'a'": 1, "x": 1, "(list)": 1, "(list 1 'a' x)": 4, "(list (list (list)))": 3,
		"(if 1 2 3)": 3, "(if 0 2 (list 3 4))": 5, "(if 1 2 (list 3 4))": 3, "(let a 1 a)": 3, "(let a (list 1 2) 1)": 5, "(let a (list 1 2) (list a a))": 7,
		"(add 1 2)": 3, "(sub 1 2)": 3, "(mul 1 2)": 3, "(eq (list 1 2) (list 1 2))": 7, "(less 1 2)": 3, "(len 'abc')": 2, "(at (list 1) 0)": 4, "(set (list 1) 0 1)": 5, "(join 'a' 'b')": 3,
		"(call five)": 2, "(call id 1)": 3, "(call id (list 1 2))": 5, "(call dup 1)": 5, "(call sum 1 2)": 6, "(call id (call id (call id 1)))": 7,
		"(map id (list))": 2, "(map id (list 1 2 3))": 8, "(map dup (list 1 2))": 10, "(call bulk 0)": 102, "(map bulk (list 0 0))": 204,
	} {
		// let, map, x, 100 of bulk for each; let, map, y, 1 of id for each: 6 and those
		ahead := api.MaxSteps - 6 - steps
		padded := "(let q (map bulk x) (let q (map id y) " + body + "))"
		if got, err := stagehand.Reckon(bodied(padded, 2), "f", []string{row(ahead/100, "0"), row(ahead%100, "0")}); err != nil || got == "" {
			t.Errorf("P6: %s with %d steps ahead: %v", body, ahead, err)
		}
		wantFaulty(t, padded, row((ahead+1)/100, "0"), row((ahead+1)%100, "0"))
	}
}

func TestP6ManyStepsEnd(t *testing.T) {
	text := three + "(fun fa (x) (list x))"
	for letter := 'a'; letter < 'z'; letter++ {
		text += "(fun f" + string(letter+1) + " (x) (call f" + string(letter) + " (at (map f" + string(letter) + " (list x x x x)) 0)))"
	}
	wantNothing(t, text, "fz", []string{"0"}, api.ErrFault)
}

func TestP6EachFunctionOfTheProgram(t *testing.T) {
	for _, one := range []struct {
		name, want string
		args       []string
	}{
		{"init", "0", nil}, {"init", "0", []string{}}, {"update", "5", []string{"2", "3"}}, {"odd", "'three'", []string{"1"}}, {"odd", "'other'", []string{"0"}},
		{"view", "('el' 'p' (('on' 'up' 1) ('id' 'x')) (3 ('lazy' 'odd' 1)))", []string{"3"}},
		{"view", "('el' 'p' (('on' 'up' 1) ('id' 'x')) ('a' ('lazy' 'odd' 0)))", []string{"'a'"}},
	} {
		if got, err := stagehand.Reckon(counter, one.name, one.args); got != one.want || err != nil {
			t.Errorf("P6: %s of %q: %s, %v, want %s", one.name, one.args, got, err, one.want)
		}
	}
	wantNothing(t, counter, "update", []string{"'a'", "3"}, api.ErrFault)
}

func TestP6NoSuchFunction(t *testing.T) {
	for _, name := range []string{"", "none", "Id", "id ", " id", "fun", "list", "x", "i", "idd", "id\x00", strings.Repeat("id", 100_000)} {
		wantNothing(t, bodied("1", 1), name, []string{"1"}, api.ErrFault)
	}
	for many := range 5 {
		args := []string{"1", "2", "3", "4"}[:many]
		for name, parameters := range map[string]int{"init": 0, "id": 1, "sum": 2, "f": 3} {
			if parameters != many {
				wantNothing(t, bodied("1", 3), name, args, api.ErrFault)
			}
		}
	}
	wantNothing(t, bodied("x", 1), "f", make([]string, 100_000), api.ErrFault)
}

func TestP6Arguments(t *testing.T) {
	for _, written := range []string{
		"0", "7", "-7", "10", "100", "9223372036854775807", "-9223372036854775808", "''", "' '", "' a  b '", "'-0'", "'~!\"#(),'", "()", "(0)", "(-1 0 1)", "(())", "(() ())", "((1 2) 'a' ((3)))", "('(' ')')",
		quoted(api.MaxWeight), row(api.MaxWeight-1, "0"), row(api.MaxWeight-1, "-9223372036854775808"), strings.Repeat("(", api.MaxWeight) + strings.Repeat(")", api.MaxWeight),
	} {
		wantGiven(t, "x", written, written)
		wantGiven(t, "y", written, "0", written)
	}
	for _, written := range []string{
		"", " ", "\n", "-", "+1", "00", "01", "-0", "-00", "-01", "--1", "1-", "1 ", " 1", "1\n", "1.0", "1e3", "0x1", "1_000", "1 2", "9223372036854775808", "-9223372036854775809", "18446744073709551616", "99999999999999999999999999",
		"a", "id", "list", "'", "'a", "a'", "'a'b", "'a''b'", "'a' ", " 'a'", "\"a\"", "'\n'", "'\t'", "'\x00'", "'\x1f'", "'\x7f'", "'\x80'", "'\xff'", "'é'",
		"(", ")", ")(", "( )", "(0", "0)", "(0 )", "( 0)", "(0  1)", "(0\n1)", "(0,1)", "(0)(1)", "()()", "() ", " ()", "(()())", "('a''b')", "('a'1)", "(1'a')", "(1())", "(()1)", "(01)", "(1 -0)", "(a)", "(list 1)", "('\n')", "(0))", "((0)", "[]",
		quoted(api.MaxWeight + 1), row(api.MaxWeight, "0"), strings.Repeat("(", api.MaxWeight+1) + strings.Repeat(")", api.MaxWeight+1), "(" + quoted(api.MaxWeight) + ")",
	} {
		wantFaulty(t, "1", written)
		wantFaulty(t, "1", written, "0")
		wantFaulty(t, "1", "0", written)
	}
}

func TestP6WhatCheckTellsComesFirst(t *testing.T) {
	for _, text := range []string{
		three + strings.Repeat(" ", api.MaxText), "(fun f (x) x", "(fun f (x) " + strings.Repeat("(list ", 16), "(fun f (x) y)", "(fun f (x x) x)", "(fun f (x) x) (fun g () (call f))", "(fun f (x) x)", "", three + "(fun f (x) (len 5) 1)",
	} {
		want := stagehand.Check(text)
		if want == nil {
			t.Fatalf("P3: Check(%.50q): nil", text)
		}
		for name, arg := range map[string]string{"f": "1", "none": "1", "init": "-0"} {
			got, err := stagehand.Reckon(text, name, []string{arg})
			cause, place := causeOf(t, text, want)
			if also, at := causeOf(t, text, err); got != "" || also != cause || at != place || errors.Is(err, api.ErrFault) {
				t.Errorf("P6: Reckon(%.50q, %s, %s): %q, %v, want %v", text, name, arg, got, err, want)
			}
		}
	}
}

func TestP1ReckonEndsAtAnyArgument(t *testing.T) {
	const written = "(12 'a b' (-3 () ('' 0)))"
	for i := range written {
		for _, arg := range []string{written[:i], written[i:], written[:i] + written[i+1:]} {
			got, err := stagehand.Reckon(bodied("x", 1), "f", []string{arg})
			if (err == nil) != (got == arg && got != "") || err != nil && !errors.Is(err, api.ErrFault) {
				t.Errorf("P1: %q: %q, %v", arg, got, err)
			}
		}
		for b := range 256 {
			arg := written[:i] + string([]byte{byte(b)}) + written[i+1:]
			got, err := stagehand.Reckon(bodied("x", 1), "f", []string{arg})
			if (err == nil) != (got == arg) || err != nil && (got != "" || !errors.Is(err, api.ErrFault)) {
				t.Errorf("P1: %q: %q, %v", arg, got, err)
			}
		}
	}
	for _, piece := range []string{"(", ")", "'", "-", "1", "0", "(0 ", "'a'", "((", "\x00", " "} {
		wantFaulty(t, "x", strings.Repeat(piece, 1_000_001))
	}
}

func TestP2ReckonWritesIntoNothing(t *testing.T) {
	room := []string{"(1 2)", "'a'", "(3)", "kept"}
	got, err := stagehand.Reckon(bodied("(list (set x 0 9) (join x z) (join y y))", 3), "f", room[:3])
	if want := "((9 2) (1 2 3) 'aa')"; got != want || err != nil {
		t.Errorf("P6: %s, %v, want %s", got, err, want)
	}
	if strings.Join(room, ",") != "(1 2),'a',(3),kept" {
		t.Errorf("P2: what was handed in was written into: %q", room)
	}
}

func TestP2ReckonTellsTheSameFromManyAtOnce(t *testing.T) {
	bodies := map[string]string{"(join x x)": "(1 2 1 2)", "(map dup x)": "((1 1) (2 2))", "(set x 1 (at x 0))": "(1 1)", "(call sum (at x 0) (at x 1))": "3"}
	args := []string{"(1 2)"}
	var workers sync.WaitGroup
	for body, want := range bodies {
		for range 4 {
			workers.Add(1)
			go func() {
				defer workers.Done()
				for range 20 {
					if got, err := stagehand.Reckon(bodied(body, 1), "f", args); got != want || err != nil {
						t.Errorf("P2: %s: %s, %v, want %s", body, got, err, want)
					}
				}
			}()
		}
	}
	workers.Wait()
}
