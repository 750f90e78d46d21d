package arbiter_test

import (
	"math/rand"
	"strconv"
	"testing"

	"arbiter/api"
	"arbiter/arbiter"
)

func TestWritten(t *testing.T) {
	for text, want := range map[string][2]int{
		"true": {0, 0}, "(and true (or))": {0, 0}, "(= x x)": {1, 1}, "(= x y) (= y x)": {2, 2},
		"(le x 3 3)": {2, 1}, "(le x y 3)": {2, 1}, "(le (f 3) y 4) (not (le (f 3) y 5))": {3, 2}, "(= (g x (f y)) (g x x)) (< (f y) x)": {5, 2},
	} {
		if terms, atoms := written(text); terms != want[0] || atoms != want[1] {
			t.Errorf("written(%q) = %d, %d", text, terms, atoms)
		}
	}
}

// P6, P7, P4, P2: long rows of calls answer as a session does that keeps texts.
func TestP6P7RowsOfCalls(t *testing.T) {
	r := rand.New(rand.NewSource(7))
	seen := map[string]map[api.Errno]int{"Declare": {}, "Assert": {}, "Push": {}, "Pop": {}}
	for range 1500 {
		s, p := arbiter.New(), newPlain()
		pops := r.Intn(9) // how readily a frame is left, where 8 is as readily as one begins
		for range 200 {
			call := anyCall(t, r, s, p, pops)
			seen[call.name][call.errno]++
			formulas, frames := p.count()
			count(t, s, formulas, frames)
			if t.Failed() {
				return
			}
		}
	}
	for name, errnos := range map[string][]api.Errno{
		"Declare": {api.OK, api.ErrName, api.ErrArity, api.ErrThere, api.ErrFull},
		"Assert":  {api.OK, api.ErrForm, api.ErrName, api.ErrArity, api.ErrNumber, api.ErrFull, api.ErrTerms, api.ErrAtoms},
		"Push":    {api.OK, api.ErrFull},
		"Pop":     {api.OK, api.ErrNone},
	} {
		for _, errno := range errnos {
			if seen[name][errno] < 20 {
				t.Errorf("%s answered %d only %d times", name, errno, seen[name][errno])
			}
		}
	}
}

type answered struct {
	name  string
	errno api.Errno
}

// anyCall makes one call of both.
func anyCall(t *testing.T, r *rand.Rand, s *arbiter.Session, p *plain, pops int) answered {
	t.Helper()
	switch n := r.Intn(48); {
	case n < 12:
		name, arity := anyName(r)
		want := p.declare(name, arity)
		declare(t, s, name, arity, want)
		return answered{"Declare", want}
	case n < 20:
		want := p.push()
		push(t, s, want)
		return answered{"Push", want}
	case n < 20+pops:
		want := p.pop()
		pop(t, s, want)
		return answered{"Pop", want}
	}
	text := anyShortFormula(r)
	place, want := p.assert(text)
	assert(t, s, text, place, want)
	return answered{"Assert", want}
}

// anyName is most often one that the formulas use, with the arity that they
// want.
func anyName(r *rand.Rand) (string, int) {
	name := []string{"x", "y", "f", "g", "h", "abcdefgh"}[r.Intn(6)]
	switch r.Intn(12) {
	case 0:
		return name, r.Intn(6) - 1
	case 1:
		return "le", 0
	case 2, 3, 4, 5:
		return letters(r.Intn(26)), r.Intn(4)
	}
	return name, arities[name]
}

// anyShortFormula has few terms and atoms, so that many of them can be laid
// down before there are too many of either.
func anyShortFormula(r *rand.Rand) string {
	term := []string{"x", "y", "(f x)", "( f y )", "(g x y)"}
	one, other := term[r.Intn(5)], term[r.Intn(5)]
	switch r.Intn(10) {
	case 0:
		return "true"
	case 1:
		return changed(r, anyFormula(r, 2))
	case 2:
		return anyFormula(r, 3)
	case 3, 4:
		return "(= " + one + " " + strconv.Itoa(r.Intn(9)) + ")"
	case 5:
		return "(and (le x " + other + " " + strconv.Itoa(r.Intn(7)) + ")(< " + one + " x))"
	}
	return "(not (le x x " + strconv.Itoa(r.Intn(20)) + "))"
}
