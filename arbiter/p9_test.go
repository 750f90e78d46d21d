package arbiter_test

import (
	"math/rand"
	"slices"
	"strconv"
	"strings"
	"testing"

	"arbiter/api"
	"arbiter/arbiter"
)

// holds tells whether formulas are true with the values that a session tells,
// and whether these are of functions.
func holds(t testing.TB, s *arbiter.Session, texts []string) bool {
	t.Helper()
	told := &trial{numbers: make([]int, 12), tests: make([][]func() bool, 13)}
	var truths []func() bool
	for _, text := range texts {
		truths = append(truths, told.truth(brackets(text)))
	}
	for n, term := range told.terms {
		told.numbers[n] = value(t, s, term)
		if told.numbers[n] < -1000000 || told.numbers[n] > 1000000 {
			t.Errorf("Value(%q) = %d", term, told.numbers[n])
		}
		if isNumber(term) && strconv.Itoa(told.numbers[n]) != term {
			t.Errorf("Value(%q) = %d", term, told.numbers[n])
		}
	}
	for _, truth := range append(truths, slices.Concat(told.tests...)...) {
		if !truth() {
			return false
		}
	}
	return true
}

// P9, as the document's examples have it.
func TestP9Examples(t *testing.T) {
	for _, row := range []string{
		"(< x y);(< y (f x))",
		"(<= x 3);(<= 5 y)",
		"(= (f (f (f x))) x);(= (f (f (f (f (f x))))) x)",
		"(= (f (f (f x))) x);(not (= (f x) x))",
		"(= (f (f (f (f (f x))))) x);(not (= (f x) x))",
	} {
		s := session(t)
		texts := strings.Split(row, ";")
		lay(t, s, texts...)
		check(t, s, true)
		if !holds(t, s, texts) {
			t.Errorf("%s is not true in the model", row)
		}
	}
}

// P9: what is known, is told.
func TestP9Certain(t *testing.T) {
	s := session(t)
	lay(t, s, "(= x 3)", "(< 3 y)", "(<= y 4)", "(= (f x) -1000)", "(= (g y 3) (f 3))", "(and (= (h 1 x y) 1000) (not (le abcdefgh 1000 999)) (le abcdefgh 1000 1000))")
	check(t, s, true)
	for term, want := range map[string]int{
		"x": 3, "y": 4, "0": 0, "-7": -7, "1000": 1000, "-1000": -1000, "(f x)": -1000, "(f 3)": -1000, " ( f\t3\n) ": -1000, "(g 4 3)": -1000, "(g y x)": -1000,
		"(h 1 x y)": 1000, "(h 1 3 4)": 1000, "(h 1 x 4)": 1000, "abcdefgh": 2000,
	} {
		if got := value(t, s, term); got != want {
			t.Errorf("Value(%q) = %d, want %d", term, got, want)
		}
	}
}

// P9: no answer ahead of Check, where nothing can be, and behind a change.
func TestP9NoAnswer(t *testing.T) {
	changes := map[string]func(s *arbiter.Session){
		"Declare": func(s *arbiter.Session) { declare(t, s, "z", 0, api.OK) },
		"Assert":  func(s *arbiter.Session) { lay(t, s, "true") },
		"Push":    func(s *arbiter.Session) { push(t, s, api.OK) },
		"Pop":     func(s *arbiter.Session) { push(t, s, api.OK); check(t, s, true); pop(t, s, api.OK) },
		"both":    func(s *arbiter.Session) { push(t, s, api.OK); pop(t, s, api.OK) },
	}
	for name, change := range changes {
		s := session(t)
		noValue(t, s, "x", 0, api.ErrAnswer)
		lay(t, s, "(< x y)")
		noValue(t, s, "x", 0, api.ErrAnswer)
		check(t, s, true)
		value(t, s, "x")
		change(s)
		if _, _, errno := s.Value("x"); errno != api.ErrAnswer {
			t.Errorf("behind %s: %d", name, errno)
		}
		check(t, s, true)
		value(t, s, "x")
		lay(t, s, "(< y x)")
		check(t, s, false)
		noValue(t, s, "x", 0, api.ErrAnswer)
	}
}

// P9, P1: that there is no answer comes ahead of all that is wrong with a text.
func TestP9NoAnswerComesFirst(t *testing.T) {
	unasked, impossible := session(t), session(t)
	lay(t, impossible, "false")
	check(t, impossible, false)
	for _, s := range []*arbiter.Session{arbiter.New(), unasked, impossible} {
		for _, text := range []string{"", "z", "(f)", "(f x", "1001", strings.Repeat("(f ", 31), strings.Repeat(" ", 601)} {
			noValue(t, s, text, 0, api.ErrAnswer)
		}
	}
}

// P9: what changes nothing leaves the answer, and the model too.
func TestP9SameModel(t *testing.T) {
	s := session(t)
	for n := range 14 {
		declare(t, s, letters(n), 0, api.OK)
	}
	lay(t, s, "(< x y)", "(not (= (f x) (f y)))", "(or (= (g x y) 5) (< (g y x) x))")
	check(t, s, true)
	terms := []string{"x", "y", "abcdefgh", "na", "(f x)", "(f y)", "(f 0)", "(f (f x))", "(g x y)", "(g y x)", "(g 1 2)", "(h x y 7)", "12"}
	var first []int
	for _, term := range terms {
		first = append(first, value(t, s, term))
	}
	for name, call := range map[string]func(){
		"nothing": func() {}, "Check": func() { check(t, s, true) }, "Tidy": func() { tidy(t, s, "(= x 1)", "(= x 1)") }, "Tidy in vain": func() { refuse(t, s, "(= x", 4, api.ErrForm) },
		"Count": func() { count(t, s, 3, 0) }, "Core": func() { noCore(t, s) }, "Value in vain": func() { noValue(t, s, "z", 0, api.ErrName) },
		"Declare in vain": func() {
			declare(t, s, "x", 0, api.ErrThere)
			declare(t, s, "z", 0, api.ErrFull)
			declare(t, s, "z", 4, api.ErrArity)
			declare(t, s, "le", 0, api.ErrName)
		},
		"Assert in vain": func() {
			assert(t, s, "(= x", 4, api.ErrForm)
			assert(t, s, "(= x z)", 5, api.ErrName)
			assert(t, s, "(and (= 1 2) (= 3 4) (= 6 7))", 0, api.ErrTerms)
		},
		"Pop in vain": func() { pop(t, s, api.ErrNone) },
	} {
		call()
		for n, term := range slices.Backward(terms) {
			if got := value(t, s, term); got != first[n] {
				t.Errorf("behind %s: Value(%q) = %d, was %d", name, term, got, first[n])
			}
		}
	}
}

// P9: a Push that is refused changes nothing either.
func TestP9PushInVain(t *testing.T) {
	s := session(t)
	for range 20 {
		push(t, s, api.OK)
	}
	check(t, s, true)
	push(t, s, api.ErrFull)
	value(t, s, "x")
	pop(t, s, api.OK)
	noValue(t, s, "x", 0, api.ErrAnswer)
}

// P9: so does an Assert where there are too many formulas or atoms.
func TestP9AssertInVain(t *testing.T) {
	s := session(t)
	for n := range 16 {
		lay(t, s, "(le x y "+strconv.Itoa(n)+")")
	}
	check(t, s, true)
	assert(t, s, "(le x y 16)", 0, api.ErrAtoms)
	value(t, s, "x")
	lay(t, s, "true", "true", "true", "true")
	noValue(t, s, "x", 0, api.ErrAnswer)
	check(t, s, true)
	assert(t, s, "true", 0, api.ErrFull)
	value(t, s, "x")
}

// P9: the errors of P5 and their places, read as a term.
func TestP9Errors(t *testing.T) {
	s := session(t)
	check(t, s, true)
	for _, c := range []struct {
		text  string
		place int
		errno api.Errno
	}{
		{"", 0, api.ErrForm}, {" \t\n", 3, api.ErrForm}, {"(", 1, api.ErrForm}, {")", 0, api.ErrForm}, {"()", 1, api.ErrForm}, {"(f", 2, api.ErrForm}, {"(f x", 4, api.ErrForm}, {"x y", 2, api.ErrForm}, {"x)", 1, api.ErrForm}, {"(f x) 1", 6, api.ErrForm}, {"(f x))", 5, api.ErrForm},
		{"true", 0, api.ErrForm}, {"false", 0, api.ErrForm}, {"le", 0, api.ErrForm}, {"(= x y)", 1, api.ErrForm}, {"(not true)", 1, api.ErrForm}, {"(and)", 1, api.ErrForm}, {"(f true)", 3, api.ErrForm}, {"(f (= x y))", 4, api.ErrForm}, {"(1 x)", 1, api.ErrForm}, {"X", 0, api.ErrForm}, {"-0", 0, api.ErrForm}, {"01", 0, api.ErrForm}, {"+1", 0, api.ErrForm}, {"((f x))", 1, api.ErrForm}, {"abcdefghi", 0, api.ErrForm}, {"x\x00", 0, api.ErrForm},
		{"z", 0, api.ErrName}, {"(z x)", 1, api.ErrName}, {"(f z)", 3, api.ErrName}, {"(g x (z", 6, api.ErrName},
		{"f", 0, api.ErrArity}, {"(x)", 1, api.ErrArity}, {"(x y)", 1, api.ErrArity}, {"(f)", 2, api.ErrArity}, {"(g x)", 4, api.ErrArity}, {"(h x y)", 6, api.ErrArity}, {"(f x y)", 5, api.ErrArity}, {"(f x 1001)", 5, api.ErrArity}, {"(f x (", 5, api.ErrArity}, {"(f g)", 3, api.ErrArity},
		{"1001", 0, api.ErrNumber}, {"-1001", 0, api.ErrNumber}, {"(f 99999999999999999999)", 3, api.ErrNumber},
		{strings.Repeat("(f ", 31), 90, api.ErrDeep}, {strings.Repeat("(f ", 30) + "(", 90, api.ErrDeep}, {strings.Repeat("(f ", 30) + "x" + strings.Repeat(")", 31), 121, api.ErrForm},
		{"x" + strings.Repeat(" ", 600), 0, api.ErrLong}, {strings.Repeat("(", 601), 0, api.ErrLong}, {strings.Repeat(" ", 600), 600, api.ErrForm},
	} {
		noValue(t, s, c.text, c.place, c.errno)
	}
	value(t, s, "x"+strings.Repeat(" ", 599))
	value(t, s, strings.Repeat("(f ", 30)+"x"+strings.Repeat(")", 30))
}

// P9, P1: all rows of tokens up to some length that are right but for their last
// token, held against the second reader.
func TestP9AllRowsOfTokens(t *testing.T) {
	s := session(t)
	check(t, s, true)
	var grow func(prefix string, left int)
	grow = func(prefix string, left int) {
		for _, next := range append(alphabet, "h") {
			text := prefix + next + " "
			_, place, errno := agreeOnTerm(t, s, text)
			if left > 1 && (errno == api.OK || errno == api.ErrForm && place == len(text)) {
				grow(text, left-1)
			}
		}
	}
	grow("", 11)
}

func TestP9ChangedTexts(t *testing.T) {
	s := session(t)
	check(t, s, true)
	r := rand.New(rand.NewSource(16))
	for range 30000 {
		text := anyTerm(r, r.Intn(6))
		if deep := r.Intn(40); deep < 32 {
			text = strings.Repeat("(f ", deep) + text + strings.Repeat(")", deep)
		}
		agreeOnTerm(t, s, changed(r, text))
	}
}

func agreeOnTerm(t *testing.T, s *arbiter.Session, text string) (int, int, api.Errno) {
	t.Helper()
	got, place, errno := s.Value(text)
	_, wantPlace, wantErrno := arities.readAs(term, text)
	if place != wantPlace || errno != wantErrno || errno != api.OK && got != 0 {
		t.Fatalf("Value(%q) = %d, %d, %d, want place %d, error %d", text, got, place, errno, wantPlace, wantErrno)
	}
	return got, place, errno
}

// P9: in the models of drawn formulas they are true.
func TestP9Drawn(t *testing.T) {
	r := rand.New(rand.NewSource(17))
	told := 0
	for range 1000 {
		s := session(t)
		terms := trialTerms(r)
		if r.Intn(2) == 0 {
			terms = twelveTerms(r)
		}
		var texts []string
		for range 1 + r.Intn(9) {
			text := trialFormula(r, terms, r.Intn(4))
			if _, errno := s.Assert(text); errno == api.OK {
				texts = append(texts, text)
			}
		}
		if !s.Check() {
			noValue(t, s, "x", 0, api.ErrAnswer)
			continue
		}
		told++
		if !holds(t, s, texts) {
			t.Fatalf("not true in the model: %q", texts)
		}
		isAModel(t, s, terms)
		if t.Failed() {
			t.Fatal(texts)
		}
	}
	if told < 400 {
		t.Error("too few models:", told)
	}
}

// isAModel looks whether names mean functions: whatever terms are written
// there, the same of the same.
func isAModel(t *testing.T, s *arbiter.Session, terms []string) {
	t.Helper()
	for _, one := range terms {
		n := value(t, s, one)
		same := []string{one}
		for _, other := range append(terms, strconv.Itoa(n)) {
			if !isNumber(other) || -1000 <= n && n <= 1000 {
				if value(t, s, other) == n {
					same = append(same, other)
				}
			}
		}
		for _, call := range []string{"(f _)", "(g _ x)", "(g 1 _)", "(h _ 1 x)", "(h x _ 1)", "(h 1 x _)", "(f (f _))", "(g _ (g _ _))"} {
			seen := map[int]string{}
			for _, argument := range same {
				if text := strings.ReplaceAll(call, "_", argument); len(text) <= 600 {
					seen[value(t, s, text)] = text
				}
			}
			if len(seen) > 1 {
				t.Errorf("not the same of the same: %v", seen)
			}
		}
	}
}

// P9: numbers that go far, either way, are no further than they may be.
func TestP9FarNumbers(t *testing.T) {
	for _, row := range []string{"(not (le _ - 1000))", "(not (le - _ 1000))"} {
		s := arbiter.New()
		var texts []string
		for n := range 11 {
			declare(t, s, letters(n), 0, api.OK)
			before := "1000"
			if n > 0 {
				before = letters(n - 1)
			}
			texts = append(texts, strings.NewReplacer("_", letters(n), "-", before).Replace(row))
		}
		lay(t, s, texts...)
		check(t, s, true)
		if !holds(t, s, texts) {
			t.Errorf("not true in the model: %q", texts)
		}
	}
}

// P9: also names that nothing is said of mean something.
func TestP9NothingSaid(t *testing.T) {
	s := session(t)
	check(t, s, true)
	isAModel(t, s, []string{"x", "y", "abcdefgh", "(f x)", "(g 1 2)", "(h x y 3)", "(f (g (f x) (f y)))", "5"})
	push(t, s, api.OK)
	declare(t, s, "z", 3, api.OK)
	check(t, s, true)
	value(t, s, "(z 1 x y)")
	pop(t, s, api.OK)
	check(t, s, true)
	noValue(t, s, "(z 1 x y)", 1, api.ErrName)
}

// P9: a name that comes again in another frame means what it means there.
func TestP9NamesOfFrames(t *testing.T) {
	s := arbiter.New()
	push(t, s, api.OK)
	declare(t, s, "x", 0, api.OK)
	lay(t, s, "(= x 7)")
	check(t, s, true)
	if got := value(t, s, "x"); got != 7 {
		t.Errorf("Value(x) = %d", got)
	}
	pop(t, s, api.OK)
	check(t, s, true)
	noValue(t, s, "x", 0, api.ErrName)
	declare(t, s, "x", 1, api.OK)
	lay(t, s, "(= (x 7) 8)")
	check(t, s, true)
	noValue(t, s, "x", 0, api.ErrArity)
	if got := value(t, s, "(x 7)"); got != 8 {
		t.Errorf("Value((x 7)) = %d", got)
	}
}
