package theory

import (
	"iter"

	"arbiter/bounds"
)

// Split tries the greatest numbers that the bounds allow. If they go against
// what is no bound, because two terms are equal there that need not be, it asks
// which of those is less (see search.Splitter).
func (t *Theory) Split() (int, bool) {
	for _, a := range t.assumed {
		one, other := a.atom.Terms[0], a.atom.Terms[1]
		if bounds.Holds(a.atom.Relation, t.greatest(one), t.greatest(other), a.atom.Bound) != a.yes {
			return t.order(one, other), true
		}
	}
	for _, twin := range t.twins {
		if t.greatest(twin[0]) == t.greatest(twin[1]) {
			continue
		}
		if one, other, some := t.chance(twin); some {
			return t.order(one, other), true
		}
	}
	return 0, false
}

// Model is the greatest numbers (see search.Modeler): where nothing more is
// asked, they fit.
func (t *Theory) Model() []int {
	numbers := make([]int, len(t.terms))
	for n := range numbers {
		numbers[n] = t.greatest(n)
	}
	return numbers
}

// greatest is the greatest number that a term can be. All terms together can
// be their greatest ones, as far as bounds go.
func (t *Theory) greatest(term int) int {
	zero := len(t.terms)
	return t.now().bounds[term][zero].by
}

// chance finds, if the arguments of twins are all equal in these numbers, two
// that need not be.
func (t *Theory) chance(twin [2]int) (int, int, bool) {
	first, second, some := 0, 0, false
	for one, other := range t.arguments(twin) {
		if t.greatest(one) != t.greatest(other) {
			return 0, 0, false
		}
		if _, same := t.now().equal(one, other); !same && !some {
			first, second, some = one, other, true
		}
	}
	return first, second, some
}

// arguments goes through the arguments of twins, each with its counterpart.
func (t *Theory) arguments(twin [2]int) iter.Seq2[int, int] {
	one, other := t.terms[twin[0]], t.terms[twin[1]]
	return func(yield func(int, int) bool) {
		for n := range one.Function.Arity {
			if !yield(one.Arguments[n], other.Arguments[n]) {
				return
			}
		}
	}
}

// order asks whether one of two terms is less than the other one, so that the
// no too says something new.
func (t *Theory) order(one, other int) int {
	if t.now().bounds[other][one].by > 0 {
		return t.less(one, other)
	}
	return t.less(other, one)
}
