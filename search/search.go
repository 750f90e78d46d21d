// Package search looks for answers about atoms that the formulas allow and that
// can stand together.
package search

import (
	"slices"

	"arbiter/marks"
	"arbiter/worlds"
)

// search is a row of answers that is made longer until nothing is open, and is
// taken back where it cannot stand. The answers about atoms come first.
type search struct {
	theory Theory
	atoms  int
	trail  []step
	left   []worlds.Set // left[n] is the worlds that fit the first n answers about atoms
}

// step is an answer that was assumed.
type step struct {
	question int
	yes      bool
	turned   bool      // the other answer was tried ahead of this one
	blame    marks.Set // if turned: what the other answer could not stand beside
}

// Answer is what a search has found.
type Answer struct {
	Stands bool  // the theory lets one of the allowed worlds stand
	Model  []int // the numbers of the terms in that world, if the theory can tell
}

// Run looks for an allowed world that the theory lets stand.
func Run(theory Theory, atoms int, allowed worlds.Set) Answer {
	s := &search{theory: theory, atoms: atoms, left: []worlds.Set{allowed}}
	if allowed.Empty() || !s.run() {
		return Answer{}
	}
	return Answer{Stands: true, Model: s.model()}
}

func (s *search) run() bool {
	var next step
	var some bool
	var blame marks.Set

propagate:
	if next, some = s.forced(); !some {
		goto decide
	}
	if s.take(next) {
		goto propagate
	}
	goto conflict

decide:
	if next, some = s.choice(); !some {
		return true
	}
	if s.take(next) {
		goto propagate
	}

conflict:
	blame = s.blame()

back:
	if s.areAtoms(blame) {
		if s.exclude(blame) {
			goto propagate
		}
		return false
	}
	next, blame = s.undo(blame)
	if next.turned {
		goto back
	}
	if s.take(step{question: next.question, yes: !next.yes, turned: true, blame: blame}) {
		goto propagate
	}
	goto conflict
}

// forced is an answer that all worlds give that are left.
func (s *search) forced() (step, bool) {
	for _, atom := range s.open() {
		yes, no := s.worlds().Votes(atom)
		if yes == 0 || no == 0 {
			return step{question: atom, yes: no == 0}, true
		}
	}
	return step{}, false
}

// choice is an answer to an open question: about an atom, what more worlds say,
// as then more of them are left.
func (s *search) choice() (step, bool) {
	if open := s.open(); len(open) > 0 {
		yes, no := s.worlds().Votes(open[0])
		return step{question: open[0], yes: yes >= no}, true
	}
	if splitter, ok := s.theory.(Splitter); ok {
		question, more := splitter.Split()
		return step{question: question, yes: true}, more
	}
	return step{}, false
}

// open is the atoms that have no answer yet.
func (s *search) open() []int {
	var open []int
	for atom := range s.atoms {
		if !slices.ContainsFunc(s.trail, func(one step) bool { return one.question == atom }) {
			open = append(open, atom)
		}
	}
	return open
}

func (s *search) worlds() worlds.Set {
	return s.left[len(s.left)-1]
}

func (s *search) take(next step) bool {
	s.trail = append(s.trail, next)
	if next.question < s.atoms {
		s.left = append(s.left, s.worlds().And(s.where(next)))
	}
	return s.theory.Assume(next.question, next.yes)
}

func (s *search) where(one step) worlds.Set {
	return worlds.Where(s.atoms, one.question, one.yes)
}

// leave takes the last steps back, but for so many.
func (s *search) leave(count int) {
	s.trail = s.trail[:count]
	s.left = s.left[:min(count, s.atoms)+1]
	s.theory.Back(count)
}

// blame is the steps that cannot stand together: all of them, unless the theory
// knows better.
func (s *search) blame() marks.Set {
	if explainer, ok := s.theory.(Explainer); ok {
		return explainer.Explain()
	}
	var all marks.Set
	for n := range s.trail {
		all = all.With(marks.Of(n))
	}
	return all
}

// model is the numbers of the terms, unless the theory knows none.
func (s *search) model() []int {
	if modeler, ok := s.theory.(Modeler); ok {
		return modeler.Model()
	}
	return nil
}

// areAtoms tells whether no step is about a split. The last one tells, as the
// splits come behind all atoms.
func (s *search) areAtoms(steps marks.Set) bool {
	last, some := steps.Last()
	return !some || s.trail[last].question < s.atoms
}

// exclude takes away the worlds that answer as these steps do, and goes back to
// where some world is left. It answers false if there is none at all.
func (s *search) exclude(steps marks.Set) bool {
	same := worlds.All(s.atoms)
	for n := range steps.All() {
		same = same.And(s.where(s.trail[n]))
	}
	others := same.Not()
	for n, left := range s.left {
		s.left[n] = left.And(others)
	}
	for count := len(s.left) - 1; count >= 0; count-- {
		if !s.left[count].Empty() {
			s.leave(count)
			return true
		}
	}
	return false
}

// undo goes back to ahead of the last blamed split. It gives that split, and
// what is to blame beside it: if both its answers were tried, for either.
func (s *search) undo(blame marks.Set) (step, marks.Set) {
	last, _ := blame.Last()
	split := s.trail[last]
	s.leave(last)
	return split, blame.Without(marks.Of(last)).With(split.blame)
}
