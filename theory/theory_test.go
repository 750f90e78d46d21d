package theory

import (
	"math/rand"
	"slices"
	"strconv"
	"strings"
	"testing"

	"arbiter/api"
	"arbiter/bounds"
	"arbiter/names"
	"arbiter/pool"
	"arbiter/search"
	"arbiter/syntax"
)

var (
	_ search.Theory    = (*Theory)(nil)
	_ search.Explainer = (*Theory)(nil)
	_ search.Splitter  = (*Theory)(nil)
	_ search.Modeler   = (*Theory)(nil)
)

// about makes the theory of atoms, which are numbered as they come.
func about(t *testing.T, atoms ...string) *Theory {
	t.Helper()
	var known names.Table
	for name, arity := range map[string]int{"w": 0, "x": 0, "y": 0, "z": 0, "f": 1, "g": 2, "h": 3} {
		known.Declare(name, arity)
	}
	var p pool.Pool
	for _, atom := range atoms {
		node, place, errno := syntax.Formula(atom, &known)
		if errno != api.OK {
			t.Fatalf("Formula(%q) = %d, %d", atom, place, errno)
		}
		if _, errno := p.Take(node); errno != api.OK {
			t.Fatalf("Take(%q) = %d", atom, errno)
		}
	}
	if len(p.Atoms()) != len(atoms) {
		t.Fatalf("an atom is there twice: %q", atoms)
	}
	return New(p.Terms(), p.Atoms())
}

// stands tries all answers to what is still asked.
func stands(th *Theory) bool {
	question, more := th.Split()
	if !more {
		return true
	}
	before := len(th.assumed)
	for _, yes := range []bool{false, true} {
		ok := th.Assume(question, yes) && stands(th)
		th.Back(before)
		if ok {
			return true
		}
	}
	return false
}

func assumeAll(th *Theory, answers []bool) bool {
	for atom, yes := range answers {
		if !th.Assume(atom, yes) {
			return false
		}
	}
	return true
}

// TestConjunctions has rows of atoms with ; between, - ahead of one that is not
// true.
func TestConjunctions(t *testing.T) {
	for row, want := range map[string]bool{
		"(= x y)": true, "-(= x y)": true, "(= x x)": true, "-(= x x)": false, "(< x x)": false, "-(< x x)": true, "(<= x x)": true, "-(<= x x)": false,
		"(le x x -1)": false, "(le x x 0)": true, "-(le x x 0)": false, "-(le x x -1)": true, "(le x y 2);-(le x y 3)": false, "(le x y 3);-(le x y 2)": true,
		"(= 1 2)": false, "-(= 1 2)": true, "(< 1 2)": true, "-(< -1 0)": false, "(< 0 -1)": false, "(<= 2 1)": false, "(le 5 3 1)": false, "(le 5 3 2)": true,
		"(< x y);(< y z);(le z x 1)": false, "(< x y);(< y z);(le z x 2)": true, "-(<= y x);-(le z y 0);(le z x 1)": false,
		"(<= x y);(<= y x);-(= x y)": false, "-(= x y);(<= x y);(<= y x)": false, "-(= x y);(le x y 1);(<= y x)": true, "-(= x y);-(= x z);(le x y 1);(<= y x);(= y z);(< x 2)": true,
		"(< 0 x);(< x 2);-(= x 1)": false, "(< 0 x);(< x 3);-(= x 1)": true, "(< 0 x);(< x 3);-(= x 1);-(= x 2)": false,
		"(= x y);-(= (f x) (f y))": false, "-(= (f x) (f y));(= x y)": false, "-(= x y);(= (f x) (f y))": true, "-(= (f x) (f y))": true,
		"(= x y);-(= (g x z) (g y w))": true, "(= x y);(= z w);-(= (g x z) (g y w))": false, "(= x y);(= z w);-(= (h 1 x z) (h 1 y w))": false, "(= x y);-(= (h 1 x z) (h 2 y z))": true,
		"(= x 1);(= (f 1) 5);-(= (f x) 5)": false, "(< x 3);(< 0 x);(= (f 1) 5);(= (f 2) 5);-(= (f x) 5)": false, "(< x 3);(< 0 x);(= (f 1) 5);-(= (f 2) 5);-(= (f x) 5)": true,
		"(= (f (f (f x))) x);(= (f (f (f (f (f x))))) x);-(= (f x) x)": false, "(= (f (f (f x))) x);-(= (f x) x)": true,
		"(= x (f x));(= y (f y));(le x y 1);(le y x 1);-(= x y);(= (f x) z);(= (f y) w);-(= z w)": true,
	} {
		answers := []bool{}
		var atoms []string
		for _, text := range strings.Split(row, ";") {
			atom, negative := strings.CutPrefix(text, "-")
			atoms, answers = append(atoms, atom), append(answers, !negative)
		}
		th := about(t, atoms...)
		if got := assumeAll(th, answers) && stands(th); got != want {
			t.Errorf("%s: %t", row, got)
		}
	}
}

// anyAtoms draws atoms of few terms and small numbers, so that much follows.
func anyAtoms(r *rand.Rand, count int) []string {
	terms := []string{"x", "y", "z", "1", "(f x)", "(f y)", "(f 1)", "(g x y)", "(g y (f x))", "(g (f x) x)"}
	terms = terms[:4+r.Intn(len(terms)-3)]
	var atoms []string
	for len(atoms) < count {
		one, other := terms[r.Intn(len(terms))], terms[r.Intn(len(terms))]
		atom := "(" + []string{"=", "=", "<", "<="}[r.Intn(4)] + " " + one + " " + other + ")"
		if r.Intn(4) == 0 {
			atom = "(le " + one + " " + other + " " + strconv.Itoa(r.Intn(5)-2) + ")"
		}
		if !slices.Contains(atoms, atom) {
			atoms = append(atoms, atom)
		}
	}
	return atoms
}

// What is told to be wrong is wrong by itself, and hangs on the last answer.
func TestExplainTellsEnough(t *testing.T) {
	r := rand.New(rand.NewSource(6))
	told, fewer := 0, 0
	for range 4000 {
		atoms := anyAtoms(r, 2+r.Intn(9))
		th := about(t, atoms...)
		var answers []bool
		for atom := range atoms {
			answers = append(answers, r.Intn(3) > 0)
			if th.Assume(atom, answers[atom]) {
				continue
			}
			told++
			why := th.Explain()
			if last, some := why.Last(); !some || last != atom {
				t.Fatalf("%q, %v: last to blame: %d", atoms, answers, last)
			}
			alone := about(t, atoms...)
			blamed := slices.Sorted(why.All())
			if len(blamed) < len(answers) {
				fewer++
			}
			ok := true
			for _, n := range blamed {
				ok = ok && alone.Assume(n, answers[n])
			}
			if ok {
				t.Fatalf("%q, %v: %v can stand", atoms, answers, blamed)
			}
			break
		}
	}
	if told < 1000 || fewer < told/3 {
		t.Errorf("wrong %d times, %d times by fewer than all", told, fewer)
	}
}

// A table is closed and tells why: what it says follows from the assumptions
// that it names, alone.
func TestBoundsHaveReasons(t *testing.T) {
	r := rand.New(rand.NewSource(7))
	for range 500 {
		atoms := anyAtoms(r, 6)
		th := about(t, atoms...)
		var answers []bool
		for atom := range atoms {
			answers = append(answers, r.Intn(3) > 0)
			if !th.Assume(atom, answers[atom]) {
				th.Back(atom)
				break
			}
		}
		now := th.now()
		for i := range now.size {
			for j := range now.size {
				checkReason(t, atoms, answers, i, j, now.bounds[i][j])
				for k := range now.size {
					if now.bounds[i][j].by > now.bounds[i][k].by+now.bounds[k][j].by {
						t.Fatalf("%q, %v: not closed at %d, %d, %d", atoms, answers, i, k, j)
					}
				}
			}
		}
	}
}

func checkReason(t *testing.T, atoms []string, answers []bool, i, j int, told bound) {
	t.Helper()
	alone := about(t, atoms...)
	for _, n := range slices.Sorted(told.why.All()) {
		if !alone.Assume(n, answers[n]) {
			t.Fatalf("%q, %v: %d cannot stand", atoms, answers, n)
		}
	}
	if got := alone.now().bounds[i][j].by; got != told.by {
		t.Fatalf("%q, %v: bound %d, %d is %d, but %d by its reasons alone", atoms, answers, i, j, told.by, got)
	}
}

// Behind a Back all is as if what was taken back had never come.
func TestBack(t *testing.T) {
	r := rand.New(rand.NewSource(8))
	for range 300 {
		atoms := anyAtoms(r, 8)
		th := about(t, atoms...)
		var kept []bool
		for range 30 {
			if len(kept) == len(atoms) || r.Intn(3) == 0 {
				kept = kept[:r.Intn(len(kept)+1)]
				th.Back(len(kept))
			}
			kept = append(kept, r.Intn(2) == 0)
			if !th.Assume(len(kept)-1, kept[len(kept)-1]) {
				kept = kept[:len(kept)-1]
				th.Back(len(kept))
			}
			again := about(t, atoms...)
			if !assumeAll(again, kept) || *again.now() != *th.now() {
				t.Fatalf("%q, %v: something is left", atoms, kept)
			}
		}
	}
}

// Either answer to what is asked tells something new, and where nothing is
// asked any more, the greatest numbers are right.
func TestSplit(t *testing.T) {
	r := rand.New(rand.NewSource(9))
	asked, stood := 0, 0
	for range 3000 {
		th := about(t, anyAtoms(r, 2+r.Intn(9))...)
		ok := true
		for atom := range th.atoms {
			ok = ok && assumeEither(th, atom, r.Intn(2) == 0)
		}
		for question, more := th.Split(); ok && more; question, more = th.Split() {
			asked++
			if fit(th) {
				t.Fatalf("question %d is asked in vain: %v", question, th.assumed)
			}
			tellsNews(t, th, question, false)
			tellsNews(t, th, question, true)
			ok = assumeEither(th, question, r.Intn(2) == 0)
		}
		if ok && !fit(th) {
			t.Fatalf("the numbers are wrong: %v", th.assumed)
		}
		for n, number := range th.Model() {
			if number != th.greatest(n) {
				t.Fatalf("the model has %d for %v", number, th.terms[n])
			}
		}
		if ok {
			stood++
		}
	}
	if asked < 1000 || stood < 1000 {
		t.Errorf("asked %d times, stood %d times", asked, stood)
	}
}

// A model goes no further than the numbers that are written need.
func TestReach(t *testing.T) {
	for _, c := range []struct {
		atoms []string
		want  int
	}{
		{nil, 0},
		{[]string{"(= x y)"}, 2},
		{[]string{"(< x (f x))", "(= (f x) y)"}, 3},
		{[]string{"(le x y -5)", "(le x y 4)"}, 2 * 6},
		{[]string{"(le x -7 4)", "(< 3 y)"}, 4 * 8},
		{[]string{"(le x 1000 1000)", "(le x -1000 -1000)"}, 3 * 1001},
	} {
		th := about(t, c.atoms...)
		if got := reach(th.terms, th.atoms); got != c.want {
			t.Errorf("reach of %q = %d, want %d", c.atoms, got, c.want)
		}
	}
}

// As far as a model may have to go, it can.
func TestReachIsEnough(t *testing.T) {
	for _, row := range [][]string{
		{"(le w 5 5)", "(le x w 5)", "(le y x 5)", "(le z y 5)"},
		{"(le 5 w 5)", "(le w x 5)", "(le x y 5)", "(le y z 5)"},
		{"(<= w x)", "(<= x y)", "(<= y z)"},
		{"(le w 1000 1000)", "(le x w 1000)", "(le -1000 y 1000)", "(le y z 1000)"},
	} {
		th := about(t, row...)
		if !assumeAll(th, make([]bool, len(row))) || !stands(th) {
			t.Errorf("%q cannot all be false", row)
		}
	}
}

func assumeEither(th *Theory, question int, yes bool) bool {
	before := len(th.assumed)
	if th.Assume(question, yes) {
		return true
	}
	th.Back(before)
	return th.Assume(question, !yes)
}

func tellsNews(t *testing.T, th *Theory, question int, yes bool) {
	t.Helper()
	before, old := len(th.assumed), th.now().bounds
	if th.Assume(question, yes) && old == th.now().bounds {
		t.Errorf("question %d, %t: nothing new", question, yes)
	}
	th.Back(before)
}

// fit tells whether all that is assumed is true with the greatest numbers.
func fit(th *Theory) bool {
	for _, a := range th.assumed {
		one, other := th.greatest(a.atom.Terms[0]), th.greatest(a.atom.Terms[1])
		if bounds.Holds(a.atom.Relation, one, other, a.atom.Bound) != a.yes {
			return false
		}
	}
	results := map[pool.Term]int{}
	for n, term := range th.terms {
		if term.IsNumber() && th.greatest(n) != term.Value {
			return false
		}
		for i := range term.Function.Arity {
			term.Arguments[i] = th.greatest(term.Arguments[i])
		}
		if result, there := results[term]; there && result != th.greatest(n) {
			return false
		}
		if term.Function.Arity > 0 {
			results[term] = th.greatest(n)
		}
	}
	return true
}

// That two terms are not equal makes the one less than the other one as soon as
// it is at most that: nothing must be asked.
func TestApartAndAtMost(t *testing.T) {
	for _, row := range [][]string{
		{"(= x y)", "(= y z)", "(<= x y)", "(<= y z)", "(le z x 1)"},
		{"(= x y)", "(= y z)", "(<= y x)", "(<= z y)", "(le x z 1)"},
	} {
		th := about(t, row...)
		if assumeAll(th, []bool{false, false, true, true, true}) {
			t.Errorf("%q", row)
		}
		th = about(t, row...)
		if !assumeAll(th, []bool{false, false, true, true, false}) {
			t.Errorf("%q, but for the last one", row)
		}
	}
}

// Each two terms have a question of their own, behind those of the atoms.
func TestQuestions(t *testing.T) {
	th := about(t, "(= (h (f w) (f x) (f y)) (h w x y))", "(< (g w x) (g y z))", "(= 1 z)")
	if len(th.terms) != api.MaxTerms {
		t.Fatal("terms:", len(th.terms))
	}
	for n, atom := range th.atoms {
		if got := th.atom(n); got != atom {
			t.Errorf("question %d: %v", n, got)
		}
	}
	for one := range th.terms {
		for other := range th.terms {
			question := th.less(one, other)
			if got := th.atom(question); got != (pool.Atom{Relation: "<", Terms: [2]int{one, other}}) {
				t.Errorf("question %d: %v", question, got)
			}
		}
	}
}
