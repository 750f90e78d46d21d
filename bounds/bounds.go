// Package bounds compares whole numbers of all kinds in one way.
package bounds

// Signed is every kind of whole number that can be negative.
type Signed interface {
	~int | ~int8 | ~int16 | ~int32 | ~int64
}

// Integer is every kind of whole number, bytes too.
type Integer interface {
	Signed | ~uint | ~uint8 | ~uint16 | ~uint32 | ~uint64
}

// Within tells whether n is one of low to high, both ends included.
func Within[N Integer](n, low, high N) bool {
	return low <= n && n <= high
}

// AllWithin tells whether each byte of text is one of low to high.
func AllWithin(text string, low, high byte) bool {
	for i := range len(text) {
		if !Within(text[i], low, high) {
			return false
		}
	}
	return true
}

// Size is how far a number is from 0.
func Size[N Signed](n N) N {
	return max(n, -n)
}

// Holds tells whether two numbers are as the relation of an atom says. Only a
// le looks at by.
func Holds[N Signed](relation string, one, other, by N) bool {
	switch relation {
	case "=":
		return one == other
	case "<":
		return one < other
	case "<=":
		return one <= other
	}
	return one <= other+by
}
