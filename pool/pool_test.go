package pool

import (
	"slices"
	"strings"
	"testing"

	"arbiter/api"
	"arbiter/names"
	"arbiter/syntax"
)

func read(t *testing.T, text string) syntax.Node {
	t.Helper()
	var known names.Table
	for name, arity := range map[string]int{"x": 0, "y": 0, "f": 1, "g": 2, "h": 3} {
		known.Declare(name, arity)
	}
	node, place, errno := syntax.Formula(text, &known)
	if errno != api.OK {
		t.Fatalf("Formula(%q) = %d, %d", text, place, errno)
	}
	return node
}

func take(t *testing.T, p *Pool, text string) Formula {
	t.Helper()
	taken, errno := p.Take(read(t, text))
	if errno != api.OK {
		t.Fatalf("Take(%q) = %d", text, errno)
	}
	return taken
}

func refuse(t *testing.T, p *Pool, text string, want api.Errno) {
	t.Helper()
	before := p.Size()
	taken, errno := p.Take(read(t, text))
	if errno != want || taken.Kind != 0 || taken.Word != "" || taken.Atom != 0 || taken.Parts != nil {
		t.Errorf("Take(%q) = %+v, %d, want %d", text, taken, errno, want)
	}
	if p.Size() != before {
		t.Errorf("Take(%q) was refused, but now there is %+v instead of %+v", text, p.Size(), before)
	}
}

func function(name string, arguments ...int) Term {
	term := Term{Function: names.Function{Name: name, Arity: len(arguments)}}
	copy(term.Arguments[:], arguments)
	return term
}

// Terms are numbered from within to without, from the left to the right.
func TestTermsAndAtomsOnce(t *testing.T) {
	var p Pool
	take(t, &p, "(and (= (h x -7 (f x)) y) (le (f x) x -7))")
	take(t, &p, "(or (<  (g  x y)  (f x)) (= (h x -7 ( f x)) y))")
	wantTerms := []Term{function("x"), {Value: -7}, function("f", 0), function("h", 0, 1, 2), function("y"), function("g", 0, 4)}
	if !slices.Equal(p.Terms(), wantTerms) {
		t.Errorf("terms: %+v", p.Terms())
	}
	wantAtoms := []Atom{{"=", [2]int{3, 4}, 0}, {"le", [2]int{2, 0}, -7}, {"<", [2]int{5, 2}, 0}}
	if !slices.Equal(p.Atoms(), wantAtoms) {
		t.Errorf("atoms: %+v", p.Atoms())
	}
	p.Terms()[0], p.Atoms()[0] = Term{}, Atom{}
	if !slices.Equal(p.Terms(), wantTerms) || !slices.Equal(p.Atoms(), wantAtoms) {
		t.Error("who was given the terms and the atoms can change them")
	}
}

func TestFormulaNamesItsAtoms(t *testing.T) {
	var p Pool
	take(t, &p, "(= x y)")
	taken := take(t, &p, "(iff (and) (=> (< x y) (not (or true (= x y) (< x y)))))")
	if got := show(taken); got != "[iff [and] [=> 1 [not [or true 0 1]]]]" {
		t.Error(got)
	}
}

func show(f Formula) string {
	switch f.Kind {
	case syntax.Atom:
		return string(rune('0' + f.Atom))
	case syntax.Truth:
		return f.Word
	}
	words := []string{f.Word}
	for _, part := range f.Parts {
		words = append(words, show(part))
	}
	return "[" + strings.Join(words, " ") + "]"
}

func TestCut(t *testing.T) {
	var p Pool
	take(t, &p, "(= x y)")
	before := p.Size()
	first := take(t, &p, "(and (= x y) (< x 1))")
	p.Cut(before)
	if p.Size() != (Size{2, 1}) || len(p.terms.numbers) != 2 || len(p.atoms.numbers) != 1 {
		t.Errorf("behind Cut: %+v, %v, %v", p.Size(), p.terms.numbers, p.atoms.numbers)
	}
	take(t, &p, "(<= 2 1)")
	if again := take(t, &p, "(and (= x y) (< x 1))"); show(first) != "[and 0 1]" || show(again) != "[and 0 2]" {
		t.Errorf("%s, then %s", show(first), show(again))
	}
	p.Cut(Size{})
	if p.Size() != (Size{}) || len(p.terms.numbers) != 0 || len(p.atoms.numbers) != 0 {
		t.Errorf("behind Cut of all: %+v", p)
	}
}

func TestTooMuch(t *testing.T) {
	var p Pool
	take(t, &p, "(and (= 1 2) (= 3 4) (= 5 6) (= 7 8) (= 9 10) (= 11 12))")
	refuse(t, &p, "(= 1 13)", api.ErrTerms)
	take(t, &p, "(and (= 1 1) (= 1 3) (= 1 4) (= 1 5) (= 1 6) (= 1 7) (= 1 8) (= 1 9) (= 1 10))")
	refuse(t, &p, "(and (= 1 11) (= 1 12))", api.ErrAtoms)
	refuse(t, &p, "(and (= 1 11) (= 1 13))", api.ErrTerms)
	take(t, &p, "(= 1 11)")
	refuse(t, &p, "(= 1 12)", api.ErrAtoms)
	if p.Size() != (Size{12, 16}) {
		t.Errorf("Size = %+v", p.Size())
	}
}

func TestIsNumber(t *testing.T) {
	var p Pool
	take(t, &p, "(and (= x 0) (= (f 0) -3))")
	var got []bool
	for _, term := range p.Terms() {
		got = append(got, term.IsNumber())
	}
	if !slices.Equal(got, []bool{false, true, false, true}) {
		t.Errorf("of x, 0, (f 0), -3: %v", got)
	}
}
