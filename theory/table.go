package theory

import (
	"arbiter/api"
	"arbiter/bounds"
	"arbiter/marks"
	"arbiter/pool"
)

// nodes is one for each term, and one for the number 0.
const nodes = api.MaxTerms + 1

// table is what is known of all nodes: row s, column t is by how much node s is
// above node t at most. It is always closed: no way round by a third node says
// more than the direct one.
type table struct {
	bounds [nodes][nodes]bound
	size   int  // how many nodes are in use
	news   bool // a bound has become less
	wrong  marks.Set
}

// bound is a number and the assumptions that it comes from.
type bound struct {
	by  int
	why marks.Set
}

// reach is how far two nodes can be from each other at most. It rules nothing
// out: if some numbers fit, and two neighbours among them are apart by more than
// the greatest number that is written and 1, then all above can come down by the
// rest, as no atom can tell the difference. It keeps a model's numbers small.
func reach(terms []pool.Term, atoms []pool.Atom) int {
	greatest := 0
	for _, term := range terms {
		greatest = max(greatest, bounds.Size(term.Value))
	}
	for _, atom := range atoms {
		greatest = max(greatest, bounds.Size(atom.Bound))
	}
	return len(terms) * (greatest + 1)
}

func newTable(size, far int) table {
	t := table{size: size}
	for i := range size {
		for j := range size {
			if i != j {
				t.bounds[i][j].by = far
			}
		}
	}
	return t
}

// limit takes in that node i is above node j by no more than the bound. It
// answers false if that cannot be; wrong tells then why.
func (t *table) limit(i, j int, most bound) bool {
	if back := t.bounds[j][i]; most.by+back.by < 0 {
		t.wrong = most.why.With(back.why)
		return false
	}
	if t.bounds[i][j].by <= most.by {
		return true
	}
	t.news = true
	for from := range t.size {
		for to := range t.size {
			t.shorten(from, to, t.bounds[from][i], most, t.bounds[j][to])
		}
	}
	return true
}

// shorten takes a way from node to node, if it says more than what is known.
func (t *table) shorten(from, to int, way ...bound) {
	sum := bound{}
	for _, part := range way {
		sum.by += part.by
	}
	if sum.by >= t.bounds[from][to].by {
		return
	}
	for _, part := range way {
		sum.why = sum.why.With(part.why)
	}
	t.bounds[from][to] = sum
}

// equal tells whether two nodes must be the same number, and why.
func (t *table) equal(i, j int) (marks.Set, bool) {
	one, other := t.bounds[i][j], t.bounds[j][i]
	if one.by > 0 || other.by > 0 {
		return marks.Set{}, false
	}
	return one.why.With(other.why), true
}

// equate takes in that two nodes are the same number.
func (t *table) equate(i, j int, why marks.Set) bool {
	return t.limit(i, j, bound{0, why}) && t.limit(j, i, bound{0, why})
}

// part takes in that two nodes are not the same number. That says something
// only where one of them is known to be at most the other.
func (t *table) part(i, j int, why marks.Set) bool {
	return t.partBelow(i, j, why) && t.partBelow(j, i, why)
}

func (t *table) partBelow(i, j int, why marks.Set) bool {
	most := t.bounds[i][j]
	return most.by != 0 || t.limit(i, j, bound{-1, most.why.With(why)})
}
