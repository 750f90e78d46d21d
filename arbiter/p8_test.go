package arbiter_test

import (
	"math/rand"
	"slices"
	"strconv"
	"strings"
	"testing"

	"arbiter/api"
	"arbiter/arbiter"
)

// P8, as the document's examples have it.
func TestP8Examples(t *testing.T) {
	checkRows(t, map[string]bool{
		"(= x y);(not (= (f x) (f y)))": false,
		"(< x y);(< y (f x))":           true,
		"(<= x 3);(<= 5 y);(le y x 1)":  false,
		"(<= x 3);(<= 5 y)":             true,
		"(= (f (f (f x))) x);(= (f (f (f (f (f x))))) x);(not (= (f x) x))": false,
		"(= (f (f (f x))) x);(= (f (f (f (f (f x))))) x)":                   true,
		"(= (f (f (f x))) x);(not (= (f x) x))":                             true,
		"(= (f (f (f (f (f x))))) x);(not (= (f x) x))":                     true,
	})
	check(t, arbiter.New(), true)
	check(t, session(t), true)
}

func TestP8Connectives(t *testing.T) {
	rows := map[string]bool{
		"true": true, "false": false, "(not true)": false, "(not false)": true, "(and)": true, "(or)": false, "(not (and))": false, "(not (or))": true,
		"(and true)": true, "(and true false)": false, "(or false)": false, "(or false true)": true, "true;false": false, "true;true": true,
		"(or (< x y) (= x y) (< y x))": true, "(not (or (< x y) (= x y) (< y x)))": false, "(and (<= x y) (<= y x));(not (= x y))": false,
		"(iff (= x y) (not (= x y)))": false, "(iff (< x y) (not (<= y x)))": true, "(not (iff (< x y) (not (<= y x))))": false,
		"(=> (< x y) (< y x));(< x y)": false, "(=> (< x y) (< y x));(< y x)": true, "(not (=> (= x 1) (< x 2)))": false, "(not (=> (< x 2) (= x 1)))": true,
		"(or (= x 1) (= x 2));(or (= x 2) (= x 3));(not (= x 2))": false, "(or (= x 1) (= x 2));(or (= x 2) (= x 3))": true,
	}
	for _, one := range []bool{false, true} {
		for _, other := range []bool{false, true} {
			both := " " + strconv.FormatBool(one) + " " + strconv.FormatBool(other) + ")"
			rows["(and"+both] = one && other
			rows["(or"+both] = one || other
			rows["(=>"+both] = !one || other
			rows["(iff"+both] = one == other
		}
	}
	checkRows(t, rows)
}

func TestP8Relations(t *testing.T) {
	checkRows(t, map[string]bool{
		"(= x x)": true, "(not (= x x))": false, "(< x x)": false, "(<= x x)": true, "(not (<= x x))": false, "(le x x 0)": true, "(le x x -1)": false, "(not (le x x -1))": true, "(le x x -1000)": false, "(le x x 1000)": true,
		"(= 1 1)": true, "(= 0 1)": false, "(= -1 1)": false, "(< -1000 1000)": true, "(< 1000 -1000)": false, "(<= 0 0)": true, "(<= 1 0)": false, "(le 1000 0 1000)": true, "(le 1000 -1 1000)": false, "(le -1000 0 -1000)": true, "(le -999 0 -1000)": false,
		"(< x y);(< y x)": false, "(<= x y);(< y x)": false, "(<= x y);(<= y x)": true, "(< x y);(le y x 0)": false, "(< x y);(le y x 1)": true,
		"(le x y -5);(le y x 4)": false, "(le x y -5);(le y x 5)": true, "(not (le x y 5));(not (le y x -6))": false, "(not (le x y 5));(not (le y x -7))": true,
		"(< 0 x);(< x 1)": false, "(< 0 x);(< x 2)": true, "(< 0 x);(< x 2);(not (= x 1))": false, "(< 0 x);(< x 2);(not (= 1 x))": false, "(<= 1 x);(<= x 3);(not (= x 1));(not (= x 3))": true, "(<= 1 x);(<= x 3);(not (= x 1));(not (= x 3));(not (= x 2))": false,
		"(= x 1000);(< x y)": true, "(= y -1000);(< x y)": true, "(< 1000 x);(le x 1000 1)": true, "(< 1000 x);(le x 1000 0)": false,
		"(= x y);(= y abcdefgh);(not (= abcdefgh x))": false, "(not (= x y));(not (= y abcdefgh));(= abcdefgh x)": true,
	})
}

func TestP8Functions(t *testing.T) {
	checkRows(t, map[string]bool{
		"(= (f x) y);(not (= (f x) y))": false, "(= (f 1) 2);(= (f 2) 1)": true, "(= (f 1) 2);(= (f 1) 1)": false, "(= x 1);(= (f x) 2);(= (f 1) 3)": false, "(<= x 1);(< 0 x);(= (f x) 2);(= (f 1) 3)": false,
		"(= (g x y) 1);(= (g y x) 2)": true, "(= (g x y) 1);(= (g y x) 2);(<= x y);(<= y x)": false, "(= x y);(not (= (g x 1) (g y 2)))": true, "(= x y);(not (= (g 2 x) (g 2 y)))": false,
		"(= (h x y 1) 1);(= (h y x 1) 2);(= x y)": false, "(= (h x y 1) 1);(= (h y x 2) 2);(= x y)": true, "(= (h 1 2 x) 1);(= (h 1 2 y) 2);(= x y)": false, "(= (h x 1 2) 1);(= (h y 1 2) 2);(= x y)": false, "(= (h 1 x 2) 1);(= (h 1 y 2) 2);(= x y)": false,
		"(= (f x) 1);(= (g x x) 2)": true, "(< x (f x));(< (f x) (f (f x)))": true, "(= (f x) (f y));(not (= x y))": true, "(< (f x) (f y));(= x y)": false,
		"(= x (f y));(= y (f x));(= x y);(not (= (f x) x))": false, "(= x (f y));(= y (f x));(not (= (f x) x))": true,
		"(<= 0 x);(<= x 1);(= (f 0) 5);(= (f 1) 5);(not (= (f x) 5))": false, "(<= 0 x);(<= x 1);(= (f 0) 5);(= (f 1) 6);(not (= (f x) 5))": true, "(<= 0 x);(<= x 2);(= (f 0) 5);(= (f 1) 5);(not (= (f x) 5))": true,
		"(or (= x y) (= x abcdefgh));(not (= (f x) (f y)));(not (= (f x) (f abcdefgh)))": false, "(or (= x y) (= x abcdefgh));(not (= (f x) (f y)))": true,
		"(= (f (f x)) x);(= (f x) y);(not (= (f y) x))": false, "(= (g (f x) y) 1);(not (= (g y (f x)) 1));(= (f x) y)": false,
	})
}

// P8: of two functions with equally many arguments, each is one of its own.
func TestP8FunctionsAreApart(t *testing.T) {
	for arguments := 1; arguments <= 3; arguments++ {
		s := arbiter.New()
		for name, arity := range map[string]int{"x": 0, "y": 0, "p": arguments, "q": arguments} {
			declare(t, s, name, arity, api.OK)
		}
		of := func(function, term string) string {
			return "(" + function + strings.Repeat(" "+term, arguments) + ")"
		}
		lay(t, s, "(< "+of("p", "x")+" "+of("q", "x")+")", "(= x y)")
		check(t, s, true)
		lay(t, s, "(= "+of("p", "y")+" "+of("q", "x")+")")
		check(t, s, false)
	}
}

// P8: sums go far beyond the greatest number of a formula: 1000 and 11 steps of
// 1001 each.
func TestP8FarNumbers(t *testing.T) {
	for _, step := range []struct {
		name      string
		low, high string // the ends of the row
		more      func(one, other string) string
	}{
		{"up", "1000", "na", func(one, other string) string { return "(not (le " + other + " " + one + " 1000))" }},
		{"down", "-1000", "na", func(one, other string) string { return "(not (le " + one + " " + other + " 1000))" }},
	} {
		s := arbiter.New()
		for n := range 11 {
			declare(t, s, letters(n), 0, api.OK)
		}
		lay(t, s, step.more(step.low, step.high))
		for n := range 10 {
			lay(t, s, step.more(letters(n), letters(n+1)))
			check(t, s, true)
		}
		push(t, s, api.OK)
		lay(t, s, "(= nk "+step.low+")")
		check(t, s, false)
		pop(t, s, api.OK)
		check(t, s, true)
	}
}

// P8: of a row of terms that are a known number apart, the sum is told by one.
func TestP8LongRows(t *testing.T) {
	r := rand.New(rand.NewSource(10))
	for range 300 {
		s := arbiter.New()
		at := []int{0}
		declare(t, s, letters(0), 0, api.OK)
		for n := range 7 {
			declare(t, s, letters(n+1), 0, api.OK)
			apart := r.Intn(281) - 140
			at = append(at, at[n]+apart)
			lay(t, s, le(n+1, n, apart), le(n, n+1, -apart))
		}
		check(t, s, true)
		one, other := r.Intn(8), r.Intn(8)
		for by, want := range map[int]bool{at[one] - at[other]: true, at[one] - at[other] - 1: false} {
			push(t, s, api.OK)
			lay(t, s, le(one, other, by))
			check(t, s, want)
			pop(t, s, api.OK)
			push(t, s, api.OK)
			lay(t, s, "(not "+le(one, other, by)+")")
			check(t, s, !want)
			pop(t, s, api.OK)
		}
	}
}

func le(one, other, by int) string {
	return "(le " + letters(one) + " " + letters(other) + " " + strconv.Itoa(by) + ")"
}

// P8: so many terms that are told apart only by what f makes of them need as
// many numbers.
func TestP8Pigeons(t *testing.T) {
	for holes := 1; holes <= 5; holes++ {
		for pigeons := 1; pigeons <= 5; pigeons++ {
			s := arbiter.New()
			declare(t, s, "f", 1, api.OK)
			for n := range pigeons {
				declare(t, s, letters(n), 0, api.OK)
				lay(t, s, "(<= 1 "+letters(n)+")", "(<= "+letters(n)+" "+strconv.Itoa(holes)+")")
			}
			for n := range pigeons - 1 {
				lay(t, s, "(< (f "+letters(n)+") (f "+letters(n+1)+"))")
			}
			if got := s.Check(); got != (pigeons <= holes) {
				t.Errorf("%d into %d: %t", pigeons, holes, got)
			}
		}
	}
}

// P8, P1: as much as there can be of everything: formulas, atoms, brackets.
func TestP8Greatest(t *testing.T) {
	s := arbiter.New()
	var atoms []string
	for n := range 12 {
		declare(t, s, letters(n), 0, api.OK)
	}
	for n := range 11 {
		atoms = append(atoms, "(< "+letters(n)+" "+letters(n+1)+")")
	}
	for n := range 5 {
		atoms = append(atoms, "(<= "+letters(n+3)+" "+letters(n)+")")
	}
	r := rand.New(rand.NewSource(11))
	var answers []bool
	for range 19 {
		odd := "true"
		for _, n := range r.Perm(16)[:14] {
			odd = "(iff " + atoms[n] + " " + odd + ")"
		}
		lay(t, s, strings.Repeat("(not ", 12)+odd+strings.Repeat(")", 12))
		answers = append(answers, s.Check())
	}
	lay(t, s, "(or (and "+strings.Join(atoms, " ")+") "+strings.Repeat("(and ", 28)+strings.Repeat(")", 28)+")")
	answers = append(answers, s.Check())
	count(t, s, 20, 0)
	if turn := slices.Index(answers, false); turn < 5 || slices.Contains(answers[turn:], true) {
		t.Error(answers)
	}
}

// trialFormula has at most three atoms.
func trialFormula(r *rand.Rand, terms []string, depth int) string {
	if depth == 0 || r.Intn(3) == 0 {
		one, other := terms[r.Intn(len(terms))], terms[r.Intn(len(terms))]
		switch r.Intn(8) {
		case 0:
			return "(< " + one + " " + other + ")"
		case 1:
			return "(<= " + one + " " + other + ")"
		case 2:
			return "(le " + one + " " + other + " " + strconv.Itoa(r.Intn(3)-1) + ")"
		case 3, 4:
			return "(= " + one + " " + other + ")"
		}
		return "(not (= " + one + " " + other + "))"
	}
	one, other := trialFormula(r, terms, depth-1), trialFormula(r, terms, depth-1)
	switch r.Intn(6) {
	case 0:
		return "(not " + one + ")"
	case 1:
		return "(and " + one + " " + other + ")"
	case 2:
		return "(=> " + one + " " + other + ")"
	case 3:
		return "(iff " + one + " " + other + ")"
	}
	return "(or " + one + " " + other + " " + trialFormula(r, terms, 0) + ")"
}

// trialTerms is few terms, of which no more than five are unknown.
func trialTerms(r *rand.Rand) []string {
	rows := [][]string{
		{"x", "y", "(f x)", "(f y)", "1"},
		{"x", "y", "0", "1", "(f x)", "(f 0)", "(f 1)"},
		{"x", "(f x)", "(f (f x))", "(f (f (f x)))", "y"},
		{"x", "y", "(g x y)", "(g y x)", "-1", "1"},
		{"x", "y", "abcdefgh", "0", "1"},
		{"x", "1", "(h x 1 x)", "(h 1 x x)", "(h x x 1)"},
	}
	return rows[r.Intn(len(rows))]
}

// P8: what is drawn is held against trying all numbers.
func TestP8DrawnAgainstTrial(t *testing.T) {
	r := rand.New(rand.NewSource(12))
	seen := map[bool]int{}
	for range 1500 {
		s := session(t)
		terms := trialTerms(r)
		var texts []string
		for range 2 + r.Intn(7) {
			text := trialFormula(r, terms, r.Intn(3))
			if _, errno := s.Assert(text); errno == api.OK {
				texts = append(texts, text)
			}
		}
		want := canBe(texts, 1)
		seen[want]++
		if got := s.Check(); got != want {
			t.Fatalf("Check() of %q = %t", texts, got)
		}
	}
	if seen[true] < 400 || seen[false] < 400 {
		t.Error("too few of one sort:", seen)
	}
}

// P8: formulas that are true with drawn numbers and functions can be true.
func TestP8DrawnTrue(t *testing.T) {
	r := rand.New(rand.NewSource(13))
	for range 500 {
		s := session(t)
		terms := twelveTerms(r)
		span := 1 + r.Intn(8)
		numbers := drawn(terms, func() int { return r.Intn(span) })
		var laid []string
		for range 50 {
			text := trialFormula(r, terms, 2)
			if !numbers.truth(brackets(text))() {
				text = "(not " + text + ")"
			}
			if _, errno := s.Assert(text); errno == api.OK {
				laid = append(laid, text)
			}
		}
		if !s.Check() {
			t.Fatalf("Check() of %q = false, but: %v, %v", laid, numbers.terms, numbers.numbers)
		}
	}
}

func twelveTerms(r *rand.Rand) []string {
	terms := []string{"x", "y", "abcdefgh", strconv.Itoa(r.Intn(2001) - 1000)}
	for len(terms) < 12 {
		call := []string{"(f", "(g", "(h"}[r.Intn(3)]
		for range arities[call[1:]] {
			call += " " + terms[r.Intn(len(terms))]
		}
		if !slices.Contains(terms, call+")") {
			terms = append(terms, call+")")
		}
	}
	return terms
}

func TestCanBe(t *testing.T) {
	for text, want := range map[string]bool{
		"(< x y)": true, "(< x x)": false, "(= (f x) (f y))": true, "(and (= x y) (< (f x) (f y)))": false, "(and (le x y -1) (le y x 0))": false, "(and (le x y -1) (le y x 1))": true,
		"(and (< 0 x) (< x 1))": false, "(and (< -1 x) (< x 1))": true, "(not (=> true (iff (or) (and))))": true, "(or false (and true (not true)))": false, "(and (= (g 0 1) 0) (= (g 1 0) 1))": true,
	} {
		if got := canBe([]string{text}, 1); got != want {
			t.Errorf("canBe(%q) = %t", text, got)
		}
	}
}

// P8, P7, P2: in a long row of calls Check answers as it does in a new session
// with the same formulas, in another order, and it changes nothing.
func TestP8RowsOfCalls(t *testing.T) {
	r := rand.New(rand.NewSource(14))
	turned := 0
	for range 80 {
		s, p := arbiter.New(), newPlain()
		for name, arity := range arities {
			declare(t, s, name, arity, p.declare(name, arity))
		}
		terms, before := trialTerms(r), true
		for range 80 {
			switch n := r.Intn(10); {
			case n < 3 || len(*p) == 1: // so that no formula is there for good
				push(t, s, p.push())
			case n < 6:
				pop(t, s, p.pop())
			default:
				text := trialFormula(r, terms, r.Intn(3))
				place, errno := p.assert(text)
				assert(t, s, text, place, errno)
			}
			want := checkAnew(t, r, p)
			check(t, s, want)
			check(t, s, want)
			formulas, frames := p.count()
			count(t, s, formulas, frames)
			if want != before {
				turned++
			}
			before = want
		}
	}
	if turned < 200 {
		t.Errorf("the answer became another one only %d times", turned)
	}
}

func checkAnew(t *testing.T, r *rand.Rand, p *plain) bool {
	t.Helper()
	s := arbiter.New()
	for name, arity := range p.names() {
		declare(t, s, name, arity, api.OK)
	}
	formulas := p.formulas()
	r.Shuffle(len(formulas), func(i, j int) { formulas[i], formulas[j] = formulas[j], formulas[i] })
	lay(t, s, formulas...)
	return s.Check()
}

// P8: a formula that was refused, and a name that nothing is said of, count for
// nothing.
func TestP8WhatIsNotLaidDown(t *testing.T) {
	s := session(t)
	lay(t, s, "(< x y)")
	assert(t, s, "(< y x", 6, api.ErrForm)
	assert(t, s, "(< y z)", 5, api.ErrName)
	assert(t, s, "(and (< y x) (= 0 1) (= 2 3) (= 4 5) (= 6 7) (= 8 9) (= 10 11))", 0, api.ErrTerms)
	check(t, s, true)
	if form, _, _ := s.Tidy("false"); form != "false" {
		t.Error(form)
	}
	check(t, s, true)
	declare(t, s, "z", 0, api.OK)
	check(t, s, true)
	lay(t, s, "(< y x)")
	check(t, s, false)
	lay(t, s, "true")
	check(t, s, false)
}

// P8: how a formula is wrapped does not matter.
func TestP8SameThingOtherwiseSaid(t *testing.T) {
	r := rand.New(rand.NewSource(15))
	wraps := [][2]string{{"(not (not ", "))"}, {"(and ", ")"}, {"(or false ", ")"}, {"(=> true ", ")"}, {"(iff true ", ")"}, {"(iff false (not ", "))"}, {"(=> (not ", ") false)"}}
	for range 300 {
		terms := trialTerms(r)
		one, other := session(t), session(t)
		all := "true"
		for range 4 {
			text := trialFormula(r, terms, 1)
			wrap := wraps[r.Intn(len(wraps))]
			lay(t, one, text)
			all = "(and " + wrap[0] + text + wrap[1] + " " + all + ")"
		}
		if len(all) <= api.MaxText {
			lay(t, other, all)
			check(t, other, one.Check())
		}
	}
}
