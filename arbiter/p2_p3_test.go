package arbiter_test

import (
	"slices"
	"strconv"
	"sync"
	"testing"

	"arbiter/api"
	"arbiter/arbiter"
)

// P2: what one session declares, another does not know.
func TestP2SessionsAreApart(t *testing.T) {
	one, other := arbiter.New(), arbiter.New()
	declare(t, one, "x", 0, api.OK)
	refuse(t, other, "(= x x)", 3, api.ErrName)
	declare(t, other, "x", 1, api.OK)
	tidy(t, one, "(= x x)", "(= x x)")
	refuse(t, other, "(= x x)", 3, api.ErrArity)
	for n := range 19 {
		declare(t, one, letters(n), 0, api.OK)
	}
	declare(t, one, "z", 0, api.ErrFull)
	declare(t, other, "z", 0, api.OK)
	refuse(t, arbiter.New(), "(= x x)", 3, api.ErrName)
}

// P2: the same calls have the same answers, also beside other sessions' calls.
func TestP2SessionsAtTheSameTime(t *testing.T) {
	var all sync.WaitGroup
	for n := range 8 {
		all.Go(func() {
			for range 200 {
				s := arbiter.New()
				declare(t, s, "a", n%4, api.OK)
				declare(t, s, letters(n), 0, api.OK)
				refuse(t, s, "(= x 1)", 3, api.ErrName)
				tidy(t, s, "(<  "+letters(n)+" 1)", "(< "+letters(n)+" 1)")
				lay(t, s, "(< 1 "+letters(n)+")")
				push(t, s, api.OK)
				lay(t, s, "(le 1 2 "+strconv.Itoa(n)+")", "(= 2 3)")
				count(t, s, 3, 1)
				check(t, s, false)
				if got := core(t, s); len(got) != 1 || got[0] != 2 {
					t.Errorf("Core() = %v", got)
				}
				pop(t, s, api.OK)
				count(t, s, 1, 0)
				check(t, s, true)
				if got := value(t, s, letters(n)); got <= 1 {
					t.Errorf("Value(%s) = %d", letters(n), got)
				}
			}
		})
	}
	all.Wait()
}

// P2: what one session's formulas say, another one's do not.
func TestP2ChecksAreApart(t *testing.T) {
	one, other := session(t), session(t)
	lay(t, one, "(< x y)")
	lay(t, other, "(< y x)")
	check(t, one, true)
	check(t, other, true)
	lay(t, one, "(< y x)")
	check(t, other, true)
	check(t, one, false)
	check(t, other, true)
}

// P2: what was found in one session, another one does not tell.
func TestP2FindingsAreApart(t *testing.T) {
	one, other, third := session(t), session(t), session(t)
	lay(t, one, "(= x 1)")
	lay(t, other, "(= x 2)")
	lay(t, third, "true", "(< x x)")
	check(t, one, true)
	noValue(t, other, "x", 0, api.ErrAnswer)
	noCore(t, third)
	check(t, other, true)
	check(t, third, false)
	lay(t, other, "(< y x)")
	if got := value(t, one, "x"); got != 1 {
		t.Errorf("Value(x) = %d", got)
	}
	noValue(t, other, "x", 0, api.ErrAnswer)
	if got := core(t, third); !slices.Equal(got, []int{1}) {
		t.Errorf("Core() = %v", got)
	}
}

// P2: an answer hangs on no earlier Tidy.
func TestP2TidyKeepsNothing(t *testing.T) {
	s := session(t)
	for range 3 {
		tidy(t, s, "(and(= x y))", "(and (= x y))")
		refuse(t, s, "(and (= x", 9, api.ErrForm)
		refuse(t, s, "((((", 1, api.ErrForm)
	}
}

// P3: no names, no formulas, no frame but the first one.
func TestP3NewSession(t *testing.T) {
	if arbiter.New() == nil || arbiter.New() == arbiter.New() {
		t.Fatal("New gave no session of its own")
	}
	s := arbiter.New()
	for c := 'a'; c <= 'z'; c++ {
		refuse(t, s, "(= "+string(c)+" 0)", 3, api.ErrName)
		refuse(t, s, "(= ("+string(c)+" 0) 0)", 4, api.ErrName)
	}
	count(t, s, 0, 0)
	pop(t, s, api.ErrNone)
	tidy(t, s, "true", "true")
}
