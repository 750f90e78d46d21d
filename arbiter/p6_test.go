package arbiter_test

import (
	"math/rand"
	"strconv"
	"strings"
	"testing"

	"arbiter/api"
)

// nested is f of f of .. x, with so many f.
func nested(n int) string {
	return strings.Repeat("(f ", n) + "x" + strings.Repeat(")", n)
}

// P6: what Tidy refuses, Assert refuses at the same place.
func TestP6ErrorsOfTidy(t *testing.T) {
	s := session(t)
	for text, want := range map[string]struct {
		place int
		errno api.Errno
	}{
		"(= x": {4, api.ErrForm}, "": {0, api.ErrForm}, "x": {0, api.ErrForm}, "true true": {5, api.ErrForm},
		"(and (= x z))": {10, api.ErrName}, "(= (f x y) y)": {8, api.ErrArity}, "(= f y)": {3, api.ErrArity}, "(= (f) y)": {5, api.ErrArity},
		"(= x 1001)": {5, api.ErrNumber}, "(le x y -1001)": {8, api.ErrNumber},
		strings.Repeat("(not ", 31) + "true": {150, api.ErrDeep},
		strings.Repeat(" ", 601):             {0, api.ErrLong}, "true" + strings.Repeat(" ", 597): {0, api.ErrLong},
	} {
		assert(t, s, text, want.place, want.errno)
		count(t, s, 0, 0)
	}
	lay(t, s, "true"+strings.Repeat(" ", 596))
	count(t, s, 1, 0)
}

func TestP6ChangedTexts(t *testing.T) {
	r := rand.New(rand.NewSource(6))
	for range 20000 {
		s := session(t)
		text := changed(r, anyFormula(r, r.Intn(6)))
		_, place, errno := arities.read(text)
		if errno == api.OK {
			continue
		}
		assert(t, s, text, place, errno)
		count(t, s, 0, 0)
	}
}

// P6: 20 formulas, be they the same one, but not one more.
func TestP6FullOfFormulas(t *testing.T) {
	s := session(t)
	for n := range 20 {
		count(t, s, n, 0)
		lay(t, s, []string{"true", "false", "(= x y)", "(and)"}[n%4])
	}
	for range 3 {
		assert(t, s, "true", 0, api.ErrFull)
		assert(t, s, "(= x y)", 0, api.ErrFull)
		count(t, s, 20, 0)
	}
}

// P6, P1: the errors of Tidy first, then the formulas, the terms, the atoms.
func TestP6FirstError(t *testing.T) {
	s := session(t)
	manyTerms := "(= x " + nested(12) + ")"
	manyAtoms := "(and" + bounded("x", 0, 17) + ")"
	both := "(or " + manyTerms + manyAtoms + ")"
	assert(t, s, manyTerms, 0, api.ErrTerms)
	assert(t, s, manyAtoms, 0, api.ErrAtoms)
	assert(t, s, both, 0, api.ErrTerms)
	assert(t, s, "(and "+both, len(both)+5, api.ErrForm)
	assert(t, s, "(and "+both+"(= z x", len(both)+8, api.ErrName)
	for range 20 {
		lay(t, s, "true")
	}
	assert(t, s, manyTerms, 0, api.ErrFull)
	assert(t, s, manyAtoms, 0, api.ErrFull)
	assert(t, s, both, 0, api.ErrFull)
	assert(t, s, both+")", len(both), api.ErrForm)
	assert(t, s, both+strings.Repeat(" ", 600), 0, api.ErrLong)
	count(t, s, 20, 0)
}

// bounded is atoms (le x term low), (le x term low+1), ..
func bounded(term string, low, many int) string {
	text := ""
	for n := range many {
		text += " (le x " + term + " " + strconv.Itoa(low+n) + ")"
	}
	return text
}

// P6: 12 terms in one formula, counted also within others.
func TestP6TermsOfOneFormula(t *testing.T) {
	for text, want := range map[string]api.Errno{
		"(= x " + nested(11) + ")":                                                                          api.OK,
		"(= x " + nested(12) + ")":                                                                          api.ErrTerms,
		"(= " + nested(11) + " " + nested(11) + ")":                                                         api.OK,
		"(not (or (= y " + nested(10) + ")))":                                                               api.OK,
		"(not (or (= y " + nested(11) + ")))":                                                               api.ErrTerms,
		"(and (= 1 2) (= 3 4) (= 5 6) (= 7 8) (= 9 10) (= 11 12))":                                          api.OK,
		"(and (= 1 2) (= 3 4) (= 5 6) (= 7 8) (= 9 10) (= 11 12) (= 1 -1))":                                 api.ErrTerms,
		"(and (= 1 2) (= 3 4) (= 5 6) (= 7 8) (= 9 10) (le 11 12 13))":                                      api.OK,
		"(= (h 1 2 3) (h (g 4 5) (g 6 7) (f 8)))":                                                           api.ErrTerms, // 8 numbers, 5 others
		"(= (h 1 2 3) (h (g 4 5) (g 6 7) 7))":                                                               api.OK,
		"(= (h 1 2 3) (h 3 2 1))":                                                                           api.OK,
		"(and (= (g x y) (g y x)) (= (g x x) (g y y)) (= (f x) (f y)) (= (h x x x) (h x x y)))":             api.OK, // 10
		"(and (= (g x y) (g y x)) (= (g x x) (g y y)) (= (h x y x) (h y x x)) (= (h x x x) 1) (= 2 3))":     api.OK, // 12
		"(and (= (g x y) (g y x)) (= (g x x) (g y y)) (= (h x y x) (h y x x)) (= (h x x x) 1) (= (f 2) 3))": api.ErrTerms,
	} {
		s := session(t)
		assert(t, s, text, 0, want)
	}
}

// P6: what is written in several formulas, also with other blanks, is one term.
func TestP6TermsOfSeveralFormulas(t *testing.T) {
	s := session(t)
	lay(t, s, "(= x (f x))", "(< y 0)", "(<= (g x (f x)) (g (f x) x))", "(= 1 2)", "(= 3 4)", "(= 5 x)")
	for _, text := range []string{"(= 6 x)", "(< x 6)", "(or (= x x) (le (f y) x 0))", "(= x -1)", "(= x abcdefgh)", "(= (f (f x)) x)", "(= (g x x) y)"} {
		push(t, s, api.OK)
		lay(t, s, text)
		assert(t, s, "(= x 7)", 0, api.ErrTerms)
		lay(t, s, text, "(=\t(f\nx)(f   x))", "(= ( g x(f x) )y)", "(< 5 (  g(f x)x))", "(le x y 100)")
		pop(t, s, api.OK)
	}
	assert(t, s, "(= 6 7)", 0, api.ErrTerms)
	count(t, s, 6, 0)
}

// P6: the number of a le is no term, but a number that is a term as well.
func TestP6NumberOfLe(t *testing.T) {
	s := session(t)
	lay(t, s, "(= x "+nested(10)+")", "(le x x 1)", "(le x x 2)", "(le x x -3)")
	push(t, s, api.OK)
	lay(t, s, "(le x 1 2)")
	assert(t, s, "(= x 2)", 0, api.ErrTerms)
	assert(t, s, "(le 2 1 1)", 0, api.ErrTerms)
	lay(t, s, "(le 1 1 2)", "(= 1 x)")
	pop(t, s, api.OK)
	lay(t, s, "(le 2 x 1)", "(= 2 x)")
	assert(t, s, "(= 1 x)", 0, api.ErrTerms)
}

// P6: 16 atoms, in one formula and in several.
func TestP6Atoms(t *testing.T) {
	s := session(t)
	lay(t, s, "(and"+bounded("y", 0, 16)+")")
	assert(t, s, "(le x y 16)", 0, api.ErrAtoms)
	lay(t, s, "(not ( le x\ty 15))", "(iff(le x y 0)(le  x  y  7))", "true", "(and)")
	count(t, s, 5, 0)

	s = session(t)
	assert(t, s, "(and"+bounded("y", 0, 17)+")", 0, api.ErrAtoms)
	for n := range 5 {
		lay(t, s, "(not (le x y "+strconv.Itoa(n)+"))", "(or)")
	}
	lay(t, s, "(and"+bounded("y", 0, 15)+")")
	assert(t, s, "(and (= x y) (= y x))", 0, api.ErrAtoms)
	lay(t, s, "(and (= x y) (= x  y))")
	assert(t, s, "(= y x)", 0, api.ErrAtoms)
	count(t, s, 12, 0)
}

// P6: atoms that mean the same, but are not written the same, are two.
func TestP6OtherAtoms(t *testing.T) {
	alike := []string{"(= x y)", "(= y x)", "(< x y)", "(< y x)", "(<= x y)", "(<= y x)", "(le x y 0)", "(le y x 0)", "(le x y -1)", "(le x y 1)", "(= x x)", "(<= x x)", "(= (f x) y)", "(= (f y) x)", "(= (f x) (f y))", "(= 0 0)"}
	for _, other := range []string{"(= y y)", "(< x x)", "(le x x 0)", "(le y x 1)", "(<= (f x) (f y))", "(= y (f x))", "(le 0 0 0)"} {
		s := session(t)
		for n, text := range alike {
			lay(t, s, text)
			count(t, s, n+1, 0)
		}
		assert(t, s, other, 0, api.ErrAtoms)
		assert(t, s, "(and true (not (not "+other+")))", 0, api.ErrAtoms)
		lay(t, s, "(and"+strings.Join(alike, "\n")+")")
		count(t, s, 17, 0)
	}
}

// P6, P1: of a formula that is refused, no term and no atom counts later on.
func TestP6RefusedLeavesNothing(t *testing.T) {
	s := session(t)
	lay(t, s, "(= x "+nested(10)+")") // 11 terms
	for range 5 {
		assert(t, s, "(and (= 1 x) (= 2 x))", 0, api.ErrTerms)
		assert(t, s, "(= (f 3) x)", 0, api.ErrTerms)
		assert(t, s, "(and (= 4 x)"+bounded("x", 0, 15)+")", 0, api.ErrAtoms)
		assert(t, s, "(and (= 5 x) (= z x))", 16, api.ErrName)
		assert(t, s, "(and (= 5 x)", 12, api.ErrForm)
		count(t, s, 1, 0)
	}
	lay(t, s, "(= 6 x)")
	for _, text := range []string{"(= 1 x)", "(= 2 x)", "(= 3 x)", "(= 4 x)", "(= 5 x)"} {
		assert(t, s, text, 0, api.ErrTerms)
	}
	lay(t, s, "(and"+bounded("6", 0, 14)+")") // 16 atoms
	assert(t, s, "(le x x 0)", 0, api.ErrAtoms)
	lay(t, s, "(le x 6 13)")
	count(t, s, 4, 0)
}

// P6: what is full of formulas keeps no term of one more.
func TestP6FullLeavesNothing(t *testing.T) {
	s := session(t)
	lay(t, s, "(= x "+nested(10)+")")
	push(t, s, api.OK)
	for range 19 {
		lay(t, s, "true")
	}
	assert(t, s, "(= 1 x)", 0, api.ErrFull)
	pop(t, s, api.OK)
	lay(t, s, "(= 2 x)")
	assert(t, s, "(= 1 x)", 0, api.ErrTerms)
}
