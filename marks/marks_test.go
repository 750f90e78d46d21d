package marks

import (
	"math/rand"
	"slices"
	"testing"
)

// Sets are held against sorted lists, the greatest number first.
func TestSets(t *testing.T) {
	r := rand.New(rand.NewSource(1))
	for range 2000 {
		var one, other Set
		var inOne, inOther []int
		for n := Most - 1; n >= 0; n-- {
			if r.Intn(8) == 0 {
				one, inOne = one.With(Of(n)), append(inOne, n)
			}
			if r.Intn(8) == 0 {
				other, inOther = other.With(Of(n)), append(inOther, n)
			}
		}
		same(t, one, inOne)
		same(t, other, inOther)
		union := slices.Concat(inOne, inOther)
		slices.Sort(union)
		slices.Reverse(union)
		same(t, one.With(other), slices.Compact(union))
		same(t, one.Without(other), slices.DeleteFunc(slices.Clone(inOne), func(n int) bool { return slices.Contains(inOther, n) }))
	}
}

func same(t *testing.T, s Set, want []int) {
	t.Helper()
	if got := slices.Collect(s.All()); !slices.Equal(got, want) {
		t.Errorf("%v, want %v", got, want)
	}
	last, some := s.Last()
	if some != (len(want) > 0) || some && last != want[0] || !some && last != 0 {
		t.Errorf("Last of %v = %d, %t", want, last, some)
	}
}

func TestEveryNumber(t *testing.T) {
	same(t, Set{}, nil)
	for n := range Most {
		same(t, Of(n), []int{n})
		same(t, Of(n).Without(Of(n)), nil)
		for m := range n {
			same(t, Of(m).With(Of(n)), []int{n, m})
		}
	}
}

// Who goes through the numbers may stop, and the set stays as it is.
func TestAllStops(t *testing.T) {
	s := Of(3).With(Of(70))
	for n := range s.All() {
		if n != 70 {
			t.Errorf("first number: %d", n)
		}
		break
	}
	same(t, s, []int{70, 3})
}
