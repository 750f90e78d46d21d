package pool

import "slices"

// row keeps things once each and numbers them in the order in which they came,
// so that the last ones can be taken back.
type row[K comparable] struct {
	things  []K
	numbers map[K]int
}

// number finds a thing, or takes it in.
func (r *row[K]) number(thing K) int {
	if n, there := r.numbers[thing]; there {
		return n
	}
	if r.numbers == nil {
		r.numbers = make(map[K]int)
	}
	n := len(r.things)
	r.things = append(r.things, thing)
	r.numbers[thing] = n
	return n
}

// cut leaves the first ones, as many as count says.
func (r *row[K]) cut(count int) {
	for _, thing := range r.things[count:] {
		delete(r.numbers, thing)
	}
	r.things = slices.Delete(r.things, count, len(r.things))
}
