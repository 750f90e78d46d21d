// Package arbiter: formulas over whole numbers and unknown functions: see DOC.md.
package arbiter

import (
	"arbiter/api"
	"arbiter/names"
	"arbiter/syntax"
)

// Session is names, formulas, frames.
type Session struct {
	names names.Table
}

// New makes a session (P3).
func New() *Session { return &Session{} }

// Declare makes a name known (P4).
func (s *Session) Declare(name string, arity int) api.Errno {
	return s.names.Declare(name, arity)
}

// Tidy writes a formula in its one form (P5).
func (s *Session) Tidy(formula string) (string, int, api.Errno) {
	read, place, errno := syntax.Formula(formula, &s.names)
	if errno != api.OK {
		return "", place, errno
	}
	return read.OneForm(), 0, api.OK
}

// Assert takes a formula (P6).
func (s *Session) Assert(formula string) (int, api.Errno) { return 0, api.OK }

// Push begins a frame (P7).
func (s *Session) Push() api.Errno { return api.OK }

// Pop leaves the last frame (P7). As long as Push makes none, there is only
// the first one, which cannot be left (P3).
func (s *Session) Pop() api.Errno { return api.ErrNone }

// Count is how many formulas and frames there are (P7).
func (s *Session) Count() (int, int) { return 0, 0 }

// Check tells whether all formulas can be true together (P8).
func (s *Session) Check() bool { return false }

// Value is what a term is in the model (P9).
func (s *Session) Value(term string) (int, int, api.Errno) { return 0, 0, api.OK }

// Core tells formulas that cannot all be true (P10).
func (s *Session) Core() ([]int, api.Errno) { return nil, api.OK }
