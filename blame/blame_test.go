package blame

import (
	"math/rand"
	"slices"
	"testing"
)

// hasOneOf tells whether one of the groups is whole among things.
func hasOneOf(groups [][]int, things []int) bool {
	return slices.ContainsFunc(groups, func(group []int) bool {
		return !slices.ContainsFunc(group, func(thing int) bool { return !slices.Contains(things, thing) })
	})
}

func TestFew(t *testing.T) {
	for _, c := range []struct {
		count int
		group []int
	}{{1, []int{0}}, {3, []int{1}}, {4, []int{0, 3}}, {5, []int{0, 1, 2, 3, 4}}, {0, []int{}}, {4, []int{}}} {
		got := Few(c.count, func(things []int) bool { return hasOneOf([][]int{c.group}, things) })
		if !slices.Equal(got, c.group) {
			t.Errorf("Few of %d = %v, want %v", c.count, got, c.group)
		}
	}
}

// What is told is wrong, and is not without any one of it; it is asked for each
// thing once.
func TestFewOfManyGroups(t *testing.T) {
	r := rand.New(rand.NewSource(22))
	for range 3000 {
		count := 1 + r.Intn(20)
		var groups [][]int
		for range 1 + r.Intn(6) {
			groups = append(groups, r.Perm(count)[:1+r.Intn(count)])
		}
		asked := 0
		got := Few(count, func(things []int) bool {
			asked++
			return hasOneOf(groups, things)
		})
		if !slices.IsSorted(got) || !hasOneOf(groups, got) || asked > count {
			t.Fatalf("Few of %v = %v, asked %d times", groups, got, asked)
		}
		for _, one := range got {
			if rest := without(got, one); len(rest) != len(got)-1 || hasOneOf(groups, rest) {
				t.Fatalf("Few of %v = %v, but %d is not needed", groups, got, one)
			}
		}
	}
}
