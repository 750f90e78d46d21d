// Package arbiter: formulas over whole numbers and unknown functions: see DOC.md.
package arbiter

import (
	"slices"

	"arbiter/api"
	"arbiter/blame"
	"arbiter/model"
	"arbiter/names"
	"arbiter/pool"
	"arbiter/search"
	"arbiter/syntax"
	"arbiter/theory"
	"arbiter/worlds"
)

// Session is names, formulas, frames.
type Session struct {
	names    names.Table
	pool     pool.Pool // the terms and the atoms of the formulas
	formulas []pool.Formula
	frames   []frame // those above the first one
	found    finding // none, if something was changed since the last Check
}

// frame is how much there was when it began: all that has come since goes with
// it.
type frame struct {
	names    int
	pool     pool.Size
	formulas int
}

// finding is what Check has found.
type finding struct {
	verdict verdict
	model   model.Model // of formulas that can be true
}

type verdict int

const (
	unasked verdict = iota
	possible
	impossible
)

// New makes a session (P3).
func New() *Session { return &Session{} }

// Declare makes a name known (P4).
func (s *Session) Declare(name string, arity int) api.Errno {
	errno := s.names.Declare(name, arity)
	if errno == api.OK {
		s.forget()
	}
	return errno
}

// Tidy writes a formula in its one form (P5).
func (s *Session) Tidy(formula string) (string, int, api.Errno) {
	read, place, errno := syntax.Formula(formula, &s.names)
	if errno != api.OK {
		return "", place, errno
	}
	return read.OneForm(), 0, api.OK
}

// Assert takes a formula (P6).
func (s *Session) Assert(formula string) (int, api.Errno) {
	read, place, errno := syntax.Formula(formula, &s.names)
	if errno != api.OK {
		return place, errno
	}
	if len(s.formulas) >= api.MaxFormulas {
		return 0, api.ErrFull
	}
	taken, errno := s.pool.Take(read)
	if errno != api.OK {
		return 0, errno
	}
	s.formulas = append(s.formulas, taken)
	s.forget()
	return 0, api.OK
}

// Push begins a frame (P7).
func (s *Session) Push() api.Errno {
	if len(s.frames) >= api.MaxFrames {
		return api.ErrFull
	}
	s.frames = append(s.frames, frame{s.names.Count(), s.pool.Size(), len(s.formulas)})
	s.forget()
	return api.OK
}

// Pop leaves the last frame (P7).
func (s *Session) Pop() api.Errno {
	if len(s.frames) == 0 {
		return api.ErrNone
	}
	last := len(s.frames) - 1
	before := s.frames[last]
	s.frames = s.frames[:last]
	s.names.Cut(before.names)
	s.pool.Cut(before.pool)
	s.formulas = slices.Delete(s.formulas, before.formulas, len(s.formulas))
	s.forget()
	return api.OK
}

// Count is how many formulas and frames there are (P7).
func (s *Session) Count() (int, int) {
	return len(s.formulas), len(s.frames)
}

// Check tells whether all formulas can be true together (P8).
func (s *Session) Check() bool {
	answer := s.decide(s.formulas)
	if answer.Stands {
		s.found = finding{possible, model.New(s.pool.Terms(), answer.Model)}
	} else {
		s.found = finding{verdict: impossible}
	}
	return answer.Stands
}

// decide finds whether formulas of the session can be true together, and how.
func (s *Session) decide(formulas []pool.Formula) search.Answer {
	terms, atoms := s.pool.Terms(), s.pool.Atoms()
	allowed := worlds.OfAll(formulas, len(atoms))
	return search.Run(theory.New(terms, atoms), len(atoms), allowed)
}

// forget drops what Check has found, as it is of other formulas or names.
func (s *Session) forget() {
	s.found = finding{}
}

// Value is what a term is in the model (P9).
func (s *Session) Value(term string) (int, int, api.Errno) {
	if s.found.verdict != possible {
		return 0, 0, api.ErrAnswer
	}
	read, place, errno := syntax.Term(term, &s.names)
	if errno != api.OK {
		return 0, place, errno
	}
	return s.found.model.Value(read), 0, api.OK
}

// Core tells formulas that cannot all be true (P10).
func (s *Session) Core() ([]int, api.Errno) {
	if s.found.verdict != impossible {
		return nil, api.ErrAnswer
	}
	return blame.Few(len(s.formulas), s.cannotBe), api.OK
}

// cannotBe tells whether the formulas of those numbers contradict each other.
func (s *Session) cannotBe(numbers []int) bool {
	var some []pool.Formula
	for _, n := range numbers {
		some = append(some, s.formulas[n])
	}
	return !s.decide(some).Stands
}
