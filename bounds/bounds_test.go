package bounds

import (
	"math"
	"testing"
)

func TestWithin(t *testing.T) {
	for _, c := range []struct {
		n, low, high int
		want         bool
	}{
		{0, 0, 3, true}, {3, 0, 3, true}, {-1, 0, 3, false}, {4, 0, 3, false}, {2, 2, 2, true},
		{2, 3, 1, false}, {math.MinInt, 0, 3, false}, {math.MaxInt, 0, 3, false}, {math.MinInt, math.MinInt, math.MaxInt, true},
	} {
		if got := Within(c.n, c.low, c.high); got != c.want {
			t.Errorf("Within(%d, %d, %d) = %t", c.n, c.low, c.high, got)
		}
	}
}

func TestWithinOfOtherKinds(t *testing.T) {
	if !Within(byte(255), 200, 255) || Within(byte(199), 200, 255) {
		t.Error("bytes")
	}
	if !Within(int8(-128), -128, 127) || Within(uint64(math.MaxUint64), 0, math.MaxInt64) {
		t.Error("small and great kinds")
	}
}

func TestAllWithin(t *testing.T) {
	for text, want := range map[string]bool{"": true, "a": true, "az": true, "a`": false, "{a": false, "aBc": false, "é": false, "\xff": false} {
		if got := AllWithin(text, 'a', 'z'); got != want {
			t.Errorf("AllWithin(%q) = %t", text, got)
		}
	}
}

func TestSize(t *testing.T) {
	for n, want := range map[int]int{0: 0, 1: 1, -1: 1, 1000: 1000, -1000: 1000} {
		if got := Size(n); got != want {
			t.Errorf("Size(%d) = %d", n, got)
		}
	}
	if Size(int8(-127)) != 127 {
		t.Error("small numbers")
	}
}

func TestHolds(t *testing.T) {
	for _, c := range []struct {
		relation       string
		one, other, by int
		want           bool
	}{
		{"=", 2, 2, 0, true}, {"=", 1, 2, 0, false}, {"=", 2, 1, 0, false},
		{"<", 2, 2, 0, false}, {"<", 1, 2, 0, true}, {"<", 2, 1, 0, false},
		{"<=", 2, 2, 0, true}, {"<=", 1, 2, 0, true}, {"<=", 2, 1, 0, false},
		{"le", 2, 2, 0, true}, {"le", 3, 2, 0, false}, {"le", 5, 2, 3, true}, {"le", 6, 2, 3, false}, {"le", -1, 2, -3, true}, {"le", 0, 2, -3, false},
	} {
		if got := Holds(c.relation, c.one, c.other, c.by); got != c.want {
			t.Errorf("Holds(%q, %d, %d, %d) = %t", c.relation, c.one, c.other, c.by, got)
		}
		if got := Holds(c.relation, int8(c.one), int8(c.other), int8(c.by)); got != c.want {
			t.Errorf("Holds(%q, %d, %d, %d) of small numbers = %t", c.relation, c.one, c.other, c.by, got)
		}
	}
}
