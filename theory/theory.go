// Package theory knows what whole numbers and functions are: which answers
// about atoms can stand together.
package theory

import (
	"arbiter/api"
	"arbiter/marks"
	"arbiter/pool"
)

// Theory keeps what was assumed and what follows from it. Its questions are
// whether the atoms are true, and behind them, whether one term is less than
// another one.
type Theory struct {
	terms   []pool.Term
	atoms   []pool.Atom
	twins   [][2]int // each two terms of one function
	assumed []answer
	tables  []table // tables[n] is what follows from the first n assumptions
}

type answer struct {
	atom pool.Atom
	yes  bool
}

// New makes the theory of those terms and atoms, in which nothing is assumed.
func New(terms []pool.Term, atoms []pool.Atom) *Theory {
	t := &Theory{terms: terms, atoms: atoms, twins: twins(terms)}
	start := newTable(len(terms)+1, reach(terms, atoms))
	zero := len(terms)
	for n, term := range terms {
		if term.IsNumber() {
			start.limit(n, zero, bound{by: term.Value})
			start.limit(zero, n, bound{by: -term.Value})
		}
	}
	t.tables = []table{start}
	return t
}

func twins(terms []pool.Term) [][2]int {
	var all [][2]int
	for second, term := range terms {
		for first, other := range terms[:second] {
			if term.Function.Arity > 0 && term.Function == other.Function {
				all = append(all, [2]int{first, second})
			}
		}
	}
	return all
}

// Assume takes an answer for given (see search.Theory).
func (t *Theory) Assume(question int, yes bool) bool {
	why := marks.Of(len(t.assumed))
	atom := t.atom(question)
	t.assumed = append(t.assumed, answer{atom, yes})
	t.tables = append(t.tables, *t.now())
	return t.now().take(atom, yes, why) && t.follow()
}

// Back takes assumptions back but for so many (see search.Theory).
func (t *Theory) Back(count int) {
	t.assumed = t.assumed[:count]
	t.tables = t.tables[:count+1]
}

// Explain tells why the last assumption cannot stand (see search.Explainer).
func (t *Theory) Explain() marks.Set {
	return t.now().wrong
}

func (t *Theory) now() *table {
	return &t.tables[len(t.tables)-1]
}

// atom is what a question is about.
func (t *Theory) atom(question int) pool.Atom {
	if question < len(t.atoms) {
		return t.atoms[question]
	}
	pair := question - len(t.atoms)
	return pool.Atom{Relation: "<", Terms: [2]int{pair / api.MaxTerms, pair % api.MaxTerms}}
}

// less is the question whether one term is less than another one.
func (t *Theory) less(one, other int) int {
	return len(t.atoms) + one*api.MaxTerms + other
}
