package arbiter_test

import (
	"math/rand"
	"slices"
	"strings"
	"testing"

	"arbiter/api"
	"arbiter/arbiter"
)

// P10: rows, with ; between, in which only some formulas are to blame: these
// must all be told, and no others need be.
func TestP10OneCore(t *testing.T) {
	for row, want := range map[string][]int{
		"false": {0}, "(or)": {0}, "(not (= x x))": {0}, "true;false;true": {1}, "true;true;(and false true)": {2},
		"(< x y);(< 0 abcdefgh);(< y x);(< abcdefgh 9)":                             {0, 2},
		"(= x y);(not (= (f x) (f y)))":                                             {0, 1},
		"(<= x 3);(<= 5 y);(le y x 1)":                                              {0, 1, 2},
		"(<= x 3);true;(<= 5 y);(< x y);(le y x 1)":                                 {0, 2, 4},
		"(= (f (f (f x))) x);(= (f (f (f (f (f x))))) x);(not (= (f x) x))":         {0, 1, 2},
		"(or (= x 1) (= x 2));(< 2 x);(< x 9)":                                      {0, 1},
		"(= x y);(= y abcdefgh);(< 3 y);(not (= (f x) (f abcdefgh)));(< (g x x) 5)": {0, 1, 3},
		"(iff (= x y) (= y 1));(< x 5);(= x 2);(= y 1)":                             {0, 2, 3},
		"(<= 0 x);(< x 9);(<= x 1);(= (f 0) 5);(= (f 1) 5);(not (= (f x) 5))":       {0, 2, 3, 4, 5},
	} {
		s := session(t)
		lay(t, s, strings.Split(row, ";")...)
		check(t, s, false)
		if got := core(t, s); !slices.Equal(got, want) {
			t.Errorf("Core() of %s = %v, want %v", row, got, want)
		}
	}
}

// P10: no answer ahead of Check, where all can be, and behind a change.
func TestP10NoAnswer(t *testing.T) {
	changes := map[string]func(s *arbiter.Session){
		"Declare": func(s *arbiter.Session) { declare(t, s, "z", 0, api.OK) },
		"Assert":  func(s *arbiter.Session) { lay(t, s, "true") },
		"Push":    func(s *arbiter.Session) { push(t, s, api.OK) },
		"Pop":     func(s *arbiter.Session) { push(t, s, api.OK); check(t, s, false); pop(t, s, api.OK) },
		"both":    func(s *arbiter.Session) { push(t, s, api.OK); pop(t, s, api.OK) },
	}
	for name, change := range changes {
		s := session(t)
		noCore(t, s)
		check(t, s, true)
		noCore(t, s)
		lay(t, s, "(< x x)")
		noCore(t, s)
		check(t, s, false)
		core(t, s)
		change(s)
		if numbers, errno := s.Core(); len(numbers) != 0 || errno != api.ErrAnswer {
			t.Errorf("behind %s: %v, %d", name, numbers, errno)
		}
		check(t, s, false)
		core(t, s)
	}
	noCore(t, arbiter.New())
}

// P10: what changes nothing leaves the answer.
func TestP10SameCore(t *testing.T) {
	s := session(t)
	for range 20 {
		push(t, s, api.OK)
	}
	lay(t, s, "(< x y)", "(< y x)", "(= x y)", "(< y 0)", "(< 0 y)")
	check(t, s, false)
	first := core(t, s)
	check(t, s, false)
	tidy(t, s, "(= x  1)", "(= x 1)")
	count(t, s, 5, 20)
	noValue(t, s, "x", 0, api.ErrAnswer)
	declare(t, s, "x", 0, api.ErrThere)
	assert(t, s, "(= x", 4, api.ErrForm)
	push(t, s, api.ErrFull)
	if got := core(t, s); !slices.Equal(got, first) {
		t.Errorf("Core() = %v, was %v", got, first)
	}
}

// P10, P2: a list is new memory, spare room too.
func TestP10NewMemory(t *testing.T) {
	s := session(t)
	lay(t, s, "(< x y)", "true", "(< y x)", "(= x 1)", "false")
	check(t, s, false)
	first := core(t, s)
	kept := slices.Clone(first)
	whole := first[:cap(first)]
	for n := range whole {
		whole[n] = 99
	}
	second := core(t, s)
	if !slices.Equal(second, kept) {
		t.Errorf("Core() = %v, was %v", second, kept)
	}
	if &second[0] == &first[0] {
		t.Error("the same memory")
	}
	for n := range whole {
		if whole[n] != 99 {
			t.Errorf("written to at %d", n)
		}
	}
	check(t, s, false)
}

// P10: the numbers go on over frames, and a Pop gives the last ones free.
func TestP10Frames(t *testing.T) {
	s := session(t)
	lay(t, s, "(< 0 x)", "(< x y)")
	push(t, s, api.OK)
	push(t, s, api.OK)
	lay(t, s, "(< 5 abcdefgh)", "(< y 0)")
	check(t, s, false)
	if got := core(t, s); !slices.Equal(got, []int{0, 1, 3}) {
		t.Errorf("Core() = %v", got)
	}
	pop(t, s, api.OK)
	check(t, s, true)
	lay(t, s, "(< y 2)")
	check(t, s, false)
	if got := core(t, s); !slices.Equal(got, []int{0, 1, 2}) {
		t.Errorf("Core() = %v", got)
	}
}

// P10, P1: of as many formulas, terms and atoms as there can be.
func TestP10Greatest(t *testing.T) {
	s := arbiter.New()
	for n := range 12 {
		declare(t, s, letters(n), 0, api.OK)
	}
	var want []int
	for n := range 11 {
		lay(t, s, "(< "+letters(n)+" "+letters(n+1)+")")
		want = append(want, n)
	}
	for n := range 4 {
		lay(t, s, "(or (<= "+letters(n)+" "+letters(n+2)+") true)", "(and)")
	}
	lay(t, s, "(le nl na 10)")
	count(t, s, 20, 0)
	check(t, s, false)
	if got := core(t, s); !slices.Equal(got, append(want, 19)) {
		t.Errorf("Core() = %v", got)
	}
}

// P10: what is told of drawn formulas rises, cannot be, and can without any one
// of its members; that is held against trying all numbers.
func TestP10Drawn(t *testing.T) {
	r := rand.New(rand.NewSource(18))
	sizes := map[int]int{}
	for range 1000 {
		s := session(t)
		terms := trialTerms(r)
		var texts []string
		for range 3 + r.Intn(10) {
			text := trialFormula(r, terms, r.Intn(3))
			if _, errno := s.Assert(text); errno == api.OK {
				texts = append(texts, text)
			}
		}
		if s.Check() {
			noCore(t, s)
			continue
		}
		numbers := core(t, s)
		isACore(t, texts, numbers)
		if t.Failed() {
			t.Fatalf("Core() of %q = %v", texts, numbers)
		}
		sizes[len(numbers)]++
	}
	for size := 1; size <= 4; size++ {
		if sizes[size] < 20 {
			t.Error("too few of one size:", sizes)
		}
	}
}

func isACore(t *testing.T, texts []string, numbers []int) {
	t.Helper()
	var blamed []string
	for n, number := range numbers {
		if number < 0 || number >= len(texts) || n > 0 && numbers[n-1] >= number {
			t.Fatalf("no rising numbers of formulas: %v", numbers)
		}
		blamed = append(blamed, texts[number])
	}
	if canBe(blamed, 1) {
		t.Errorf("can be true: %q", blamed)
	}
	for n := range blamed {
		if rest := slices.Delete(slices.Clone(blamed), n, n+1); !canBe(rest, 1) {
			t.Errorf("%q is not needed: %q", blamed[n], blamed)
		}
	}
}
