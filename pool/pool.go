// Package pool keeps the terms and the atoms of all formulas once each: what is
// written the same is the same thing.
package pool

import (
	"slices"

	"arbiter/api"
	"arbiter/names"
	"arbiter/syntax"
)

// Term is a function and the numbers of its arguments, or a number, which has
// no function. A place of Arguments beyond the function's arity is 0.
type Term struct {
	Function  names.Function
	Arguments [api.MaxArity]int
	Value     int
}

// IsNumber tells whether the term is a number.
func (t Term) IsNumber() bool {
	return t.Function.Name == ""
}

// Atom is two terms, by their numbers, and how they are compared. Only a le has
// a bound.
type Atom struct {
	Relation string
	Terms    [2]int
	Bound    int
}

// Formula is a formula that names its atoms by their numbers.
type Formula struct {
	Kind  syntax.Kind // Truth, Connective or Atom
	Word  string      // of a truth or a connective
	Atom  int         // the number of an atom
	Parts []Formula
}

// Pool is all terms and all atoms. One that is empty is ready for use.
type Pool struct {
	terms row[Term]
	atoms row[Atom]
}

// Size is how many terms and atoms there are.
type Size struct {
	Terms, Atoms int
}

// Size tells how much there is, for a later Cut.
func (p *Pool) Size() Size {
	return Size{len(p.terms.things), len(p.atoms.things)}
}

// Terms gives all terms, each at its number. A term comes behind its arguments.
func (p *Pool) Terms() []Term {
	return slices.Clone(p.terms.things)
}

// Atoms gives all atoms, each at its number.
func (p *Pool) Atoms() []Atom {
	return slices.Clone(p.atoms.things)
}

// Cut takes back what came since the pool had that size.
func (p *Pool) Cut(s Size) {
	p.terms.cut(s.Terms)
	p.atoms.cut(s.Atoms)
}

// Take keeps the terms and the atoms of a formula. If there are too many then,
// it keeps none of them.
func (p *Pool) Take(node syntax.Node) (Formula, api.Errno) {
	before := p.Size()
	taken := p.formula(node)
	if errno := p.Size().tooGreat(); errno != api.OK {
		p.Cut(before)
		return Formula{}, errno
	}
	return taken, api.OK
}

func (s Size) tooGreat() api.Errno {
	switch {
	case s.Terms > api.MaxTerms:
		return api.ErrTerms
	case s.Atoms > api.MaxAtoms:
		return api.ErrAtoms
	}
	return api.OK
}

func (p *Pool) formula(node syntax.Node) Formula {
	if node.Kind == syntax.Atom {
		return Formula{Kind: syntax.Atom, Atom: p.atom(node)}
	}
	taken := Formula{Kind: node.Kind, Word: node.Word}
	for _, part := range node.Parts {
		taken.Parts = append(taken.Parts, p.formula(part))
	}
	return taken
}

func (p *Pool) atom(node syntax.Node) int {
	atom := Atom{Relation: node.Word}
	for i := range atom.Terms {
		atom.Terms[i] = p.term(node.Parts[i])
	}
	for _, bound := range node.Parts[len(atom.Terms):] {
		atom.Bound = bound.Value
	}
	return p.atoms.number(atom)
}

func (p *Pool) term(node syntax.Node) int {
	if node.Kind == syntax.Number {
		return p.terms.number(Term{Value: node.Value})
	}
	term := Term{Function: names.Function{Name: node.Word, Arity: len(node.Parts)}}
	for i, part := range node.Parts {
		term.Arguments[i] = p.term(part)
	}
	return p.terms.number(term)
}
