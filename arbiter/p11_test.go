package arbiter_test

import (
	"math/rand"
	"slices"
	"testing"

	"arbiter/api"
	"arbiter/arbiter"
)

// alone tells whether one formula can be true.
func alone(t *testing.T, text string) bool {
	t.Helper()
	s := session(t)
	lay(t, s, text)
	return s.Check()
}

// P11: of a formula and its not one at least can be true; of a formula that
// says nothing, only one.
func TestP11Not(t *testing.T) {
	r := rand.New(rand.NewSource(19))
	seen := map[[2]bool]int{}
	for range 2000 {
		text := trialFormula(r, trialTerms(r), r.Intn(4))
		both := [2]bool{alone(t, text), alone(t, "(not "+text+")")}
		if both == [2]bool{} {
			t.Errorf("neither %s nor its not", text)
		}
		seen[both]++
	}
	for _, both := range [][2]bool{{true, true}, {true, false}, {false, true}} {
		if seen[both] < 50 {
			t.Error("too few of one sort:", seen)
		}
	}
	for text, both := range map[string][2]bool{
		"true": {true, false}, "false": {false, true}, "(and)": {true, false}, "(or)": {false, true}, "(= x y)": {true, true}, "(= x x)": {true, false},
		"(=> (= x y) (= (f x) (f y)))": {true, false}, "(=> (= (f x) (f y)) (= x y))": {true, true}, "(= 1 2)": {false, true},
	} {
		if got := [2]bool{alone(t, text), alone(t, "(not "+text+")")}; got != both {
			t.Errorf("%s: %v", text, got)
		}
	}
}

// P11: with more formulas, what cannot be stays so; with fewer, what can.
func TestP11MoreAndFewer(t *testing.T) {
	r := rand.New(rand.NewSource(20))
	more, fewer := 0, 0
	for range 200 {
		s := session(t)
		terms := trialTerms(r)
		var texts []string
		possible := true
		for range 12 {
			text := trialFormula(r, terms, r.Intn(3))
			if _, errno := s.Assert(text); errno != api.OK {
				continue
			}
			texts = append(texts, text)
			now := s.Check()
			if now && !possible {
				t.Fatalf("only with the last one: %q", texts)
			}
			if !possible {
				more++
			}
			possible = now
			some := session(t)
			for _, one := range texts {
				if r.Intn(3) > 0 {
					lay(t, some, one)
				}
			}
			if now {
				fewer++
				check(t, some, true)
			}
		}
	}
	if more < 200 || fewer < 200 {
		t.Errorf("more: %d, fewer: %d", more, fewer)
	}
}

// answers is what a session tells of its formulas, once it is asked.
type answers struct {
	possible        bool
	values          [4]int
	core            []int
	tidy            string
	place           int
	errno           api.Errno
	formulas, count int
}

func ask(t *testing.T, s *arbiter.Session) answers {
	t.Helper()
	a := answers{possible: s.Check()}
	if a.possible {
		for n, term := range [4]string{"x", "y", "(f x)", "(g y (f 1))"} {
			a.values[n] = value(t, s, term)
		}
	} else {
		a.core = core(t, s)
	}
	a.tidy, a.place, a.errno = s.Tidy("(< z x)")
	a.formulas, a.count = s.Count()
	return a
}

// P11: what was answered ahead of a Push is answered behind its Pop, whatever
// comes in between, frames within frames too.
func TestP11PushAndPop(t *testing.T) {
	r := rand.New(rand.NewSource(21))
	seen := map[[2]bool]int{}
	for range 50 {
		s := session(t)
		terms := trialTerms(r)
		var ahead []answers
		for range 60 {
			switch n := r.Intn(10); {
			case n < 3:
				ahead = append(ahead, ask(t, s))
				push(t, s, api.OK)
			case n < 6 && len(ahead) > 0:
				before := ask(t, s)
				pop(t, s, api.OK)
				want, got := ahead[len(ahead)-1], ask(t, s)
				ahead = ahead[:len(ahead)-1]
				sameAnswers(t, got, want)
				seen[[2]bool{before.possible, want.possible}]++
			case n == 6:
				s.Declare("z", r.Intn(2))
			case n > 6:
				s.Assert(trialFormula(r, terms, r.Intn(3)))
			}
			if len(ahead) == 20 || t.Failed() {
				break
			}
		}
	}
	for _, both := range [][2]bool{{true, true}, {false, true}, {false, false}} {
		if seen[both] < 20 {
			t.Error("too few of one sort:", seen)
		}
	}
	if seen[[2]bool{true, false}] > 0 {
		t.Error("possible only with more:", seen)
	}
}

func sameAnswers(t *testing.T, got, want answers) {
	t.Helper()
	if !slices.Equal(got.core, want.core) {
		t.Errorf("Core() = %v, was %v", got.core, want.core)
	}
	if got.possible != want.possible || got.values != want.values || got.tidy != want.tidy || got.place != want.place || got.errno != want.errno || got.formulas != want.formulas || got.count != want.count {
		t.Errorf("%+v, was %+v", got, want)
	}
}
