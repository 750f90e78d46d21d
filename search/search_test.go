package search

import (
	"math/rand"
	"slices"
	"testing"

	"arbiter/marks"
	"arbiter/worlds"
)

// rules is a theory in which no rule may hold whole: its answers cannot stand
// together.
type rules struct {
	t       *testing.T
	rules   [][]rule
	assumed []rule
	asked   int
}

type rule struct {
	question int
	yes      bool
}

func (r *rules) Assume(question int, yes bool) bool {
	if slices.ContainsFunc(r.assumed, func(one rule) bool { return one.question == question }) {
		r.t.Fatalf("question %d is assumed twice: %v", question, r.assumed)
	}
	if r.broken() != nil {
		r.t.Fatalf("more is assumed where something is wrong: %v", r.assumed)
	}
	r.assumed = append(r.assumed, rule{question, yes})
	r.asked++
	return r.broken() == nil
}

func (r *rules) Back(count int) {
	if count > len(r.assumed) {
		r.t.Fatalf("Back(%d) of %v", count, r.assumed)
	}
	r.assumed = r.assumed[:count]
}

func (r *rules) broken() []rule {
	for _, one := range r.rules {
		if !slices.ContainsFunc(one, func(part rule) bool { return !slices.Contains(r.assumed, part) }) {
			return one
		}
	}
	return nil
}

// explaining tells which rule is broken.
type explaining struct{ *rules }

func (e explaining) Explain() marks.Set {
	var why marks.Set
	for _, part := range e.broken() {
		why = why.With(marks.Of(slices.Index(e.assumed, part)))
	}
	return why
}

// splitting has questions of its own behind the atoms.
type splitting struct {
	*rules
	atoms, questions int
}

func (s splitting) Split() (int, bool) {
	for question := s.atoms; question < s.questions; question++ {
		if !slices.ContainsFunc(s.assumed, func(one rule) bool { return one.question == question }) {
			return question, true
		}
	}
	return 0, false
}

// both can do both.
type both struct {
	explaining
	splitting
}

func (b both) Assume(question int, yes bool) bool { return b.explaining.Assume(question, yes) }
func (b both) Back(count int)                     { b.explaining.Back(count) }

func (r *rules) allow(number int) bool {
	return !slices.ContainsFunc(r.rules, func(one []rule) bool {
		return !slices.ContainsFunc(one, func(part rule) bool { return number>>part.question&1 == 1 != part.yes })
	})
}

// anyRules draws rules of one to four answers.
func anyRules(t *testing.T, r *rand.Rand, questions, count int) *rules {
	made := &rules{t: t}
	for range count {
		var one []rule
		for _, question := range r.Perm(questions)[:1+r.Intn(min(4, questions))] {
			one = append(one, rule{question, r.Intn(2) == 0})
		}
		made.rules = append(made.rules, one)
	}
	return made
}

func anyWorlds(r *rand.Rand, atoms int) worlds.Set {
	some := worlds.All(atoms)
	for range r.Intn(6) {
		or := worlds.None(atoms)
		for range 3 {
			or = or.Or(worlds.Where(atoms, r.Intn(atoms), r.Intn(2) == 0))
		}
		some = some.And(or)
	}
	return some
}

func has(s worlds.Set, number int) bool {
	return s[number/64]>>(number%64)&1 == 1
}

// Searches with rules, whatever else the theory can do, are held against
// trying all answers.
func TestRunAgainstAllAnswers(t *testing.T) {
	r := rand.New(rand.NewSource(4))
	seen := map[bool]int{}
	for range 6000 {
		atoms := 1 + r.Intn(7)
		questions := atoms + r.Intn(5)
		about := anyRules(t, r, questions, r.Intn(30))
		allowed := anyWorlds(r, atoms)
		want := false
		for number := range 1 << questions {
			want = want || has(allowed, number&(1<<atoms-1)) && about.allow(number)
		}
		seen[want]++
		for name, theory := range map[string]Theory{
			"splitting":                splitting{about, atoms, questions},
			"splitting and explaining": both{explaining{about}, splitting{about, atoms, questions}},
		} {
			about.assumed = nil
			if got := Run(theory, atoms, slices.Clone(allowed)).Stands; got != want {
				t.Fatalf("%s, %d atoms, %d questions: Run = %t: %v", name, atoms, questions, got, about.rules)
			}
			if want && !about.allow(number(about.assumed)) {
				t.Fatalf("%s: in the end %v is assumed", name, about.assumed)
			}
		}
	}
	if seen[true] < 500 || seen[false] < 500 {
		t.Error("too few of one sort:", seen)
	}
}

func number(answers []rule) int {
	n := 0
	for _, one := range answers {
		if one.yes {
			n |= 1 << one.question
		}
	}
	return n
}

// A theory that can neither explain nor split is asked about atoms only.
func TestRunOfAPlainTheory(t *testing.T) {
	r := rand.New(rand.NewSource(5))
	for range 3000 {
		atoms := 1 + r.Intn(8)
		about := anyRules(t, r, atoms, r.Intn(40))
		allowed := anyWorlds(r, atoms)
		want := false
		for number := range 1 << atoms {
			want = want || has(allowed, number) && about.allow(number)
		}
		for _, theory := range []Theory{about, explaining{about}} {
			about.assumed = nil
			if got := Run(theory, atoms, allowed).Stands; got != want {
				t.Fatalf("Run = %t: %v", got, about.rules)
			}
		}
	}
}

// modeling has a model, which tells what was assumed.
type modeling struct{ *rules }

func (m modeling) Model() []int {
	var questions []int
	for _, one := range m.assumed {
		questions = append(questions, one.question)
	}
	return questions
}

// A model is asked for where a world stands, if the theory has any.
func TestModel(t *testing.T) {
	for _, c := range []struct {
		rules   [][]rule
		allowed worlds.Set
		want    Answer
	}{
		{nil, worlds.Where(2, 1, true), Answer{true, []int{1, 0}}},
		{[][]rule{{{1, true}}}, worlds.Where(2, 1, true), Answer{}},
		{nil, worlds.None(2), Answer{}},
	} {
		about := &rules{t: t, rules: c.rules}
		got := Run(modeling{about}, 2, c.allowed)
		if got.Stands != c.want.Stands || !slices.Equal(got.Model, c.want.Model) {
			t.Errorf("Run = %v, want %v", got, c.want)
		}
		about.assumed = nil
		if got := Run(about, 2, c.allowed); got.Stands != c.want.Stands || got.Model != nil {
			t.Errorf("without a model: Run = %v", got)
		}
	}
}

func TestRunOfNothing(t *testing.T) {
	about := &rules{t: t}
	if !Run(about, 0, worlds.All(0)).Stands || Run(about, 0, worlds.None(0)).Stands || Run(about, 3, worlds.None(3)).Stands {
		t.Error("Run without a question")
	}
	if about.asked != 0 {
		t.Errorf("asked %d times", about.asked)
	}
}

// What all worlds say is assumed ahead of all else; nothing has to be tried.
func TestForcedComesFirst(t *testing.T) {
	allowed := worlds.Where(3, 2, true).And(worlds.Where(3, 0, false).Or(worlds.Where(3, 2, false)))
	about := &rules{t: t, rules: [][]rule{{{0, true}, {1, true}}}}
	if !Run(about, 3, allowed).Stands || !slices.Equal(about.assumed, []rule{{0, false}, {2, true}, {1, true}}) {
		t.Errorf("assumed: %v", about.assumed)
	}
	if about.asked != 3 {
		t.Errorf("asked %d times", about.asked)
	}
}

// An explanation spares the search all other answers: 16 atoms are tried
// neither in all worlds nor twice for each split that has nothing to do with it.
func TestExplanationsAreUsed(t *testing.T) {
	atoms, questions := 16, 28
	about := &rules{t: t, rules: [][]rule{{{0, true}}, {{0, false}, {16, true}, {1, true}}, {{0, false}, {16, false}, {1, true}}, {{1, false}, {16, true}}, {{1, false}, {16, false}}}}
	theory := both{explaining{about}, splitting{about, atoms, questions}}
	if Run(theory, atoms, worlds.All(atoms)).Stands {
		t.Error("Run = true")
	}
	if about.asked > 100 {
		t.Errorf("asked %d times", about.asked)
	}
}

// What was found ahead of a conflict and has nothing to do with it is not asked
// again.
func TestBackGoesNoFurther(t *testing.T) {
	atoms := 16
	about := &rules{t: t}
	for n := range 15 {
		about.rules = append(about.rules, []rule{{n, true}, {n + 1, true}})
	}
	if !Run(explaining{about}, atoms, worlds.All(atoms)).Stands {
		t.Error("Run = false")
	}
	if about.asked > 2*atoms {
		t.Errorf("asked %d times", about.asked)
	}
}
