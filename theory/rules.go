package theory

import (
	"arbiter/marks"
	"arbiter/pool"
)

// take takes in what an answer about an atom says of its two terms. That two
// are not equal is no bound: see parted.
func (t *table) take(atom pool.Atom, yes bool, why marks.Set) bool {
	one, other, by := atom.Terms[0], atom.Terms[1], excess(atom)
	switch {
	case atom.Relation == "=" && yes:
		return t.equate(one, other, why)
	case atom.Relation == "=":
		return true
	case yes:
		return t.limit(one, other, bound{by, why})
	}
	return t.limit(other, one, bound{-by - 1, why})
}

// excess is by how much the first term of an atom may be above the second one.
func excess(atom pool.Atom) int {
	if atom.Relation == "<" {
		return -1
	}
	return atom.Bound
}

// follow takes in what follows from bounds by other rules than their own, until
// nothing new comes.
func (t *Theory) follow() bool {
	now := t.now()
	for now.news = true; now.news; {
		now.news = false
		if !t.parted() || !t.mapped() {
			return false
		}
	}
	return true
}

// parted takes in that terms are not equal.
func (t *Theory) parted() bool {
	for n, a := range t.assumed {
		if a.atom.Relation != "=" || a.yes {
			continue
		}
		if !t.now().part(a.atom.Terms[0], a.atom.Terms[1], marks.Of(n)) {
			return false
		}
	}
	return true
}

// mapped takes in that a function makes the same of the same.
func (t *Theory) mapped() bool {
	for _, twin := range t.twins {
		why, same := t.sameArguments(twin)
		if same && !t.now().equate(twin[0], twin[1], why) {
			return false
		}
	}
	return true
}

func (t *Theory) sameArguments(twin [2]int) (marks.Set, bool) {
	var all marks.Set
	for one, other := range t.arguments(twin) {
		why, same := t.now().equal(one, other)
		if !same {
			return marks.Set{}, false
		}
		all = all.With(why)
	}
	return all, true
}
