// Package marks keeps sets of assumptions: those that something hangs on.
package marks

import (
	"iter"
	"math/bits"

	"arbiter/api"
)

// Most is how many assumptions there can be at once: one for each atom, and for
// each two terms whether the one is less and whether the other is.
const Most = api.MaxAtoms + api.MaxTerms*(api.MaxTerms-1)

const wordBits = 64

// Set is a set of numbers from 0 to below Most, each a bit.
type Set [(Most + wordBits - 1) / wordBits]uint64

// Of is the set of one number.
func Of(number int) Set {
	var s Set
	s[number/wordBits] = 1 << (number % wordBits)
	return s
}

// With is all that is in one of the two.
func (s Set) With(other Set) Set {
	for i := range s {
		s[i] |= other[i]
	}
	return s
}

// Without is all but what is in the other.
func (s Set) Without(other Set) Set {
	for i := range s {
		s[i] &^= other[i]
	}
	return s
}

// Last is the greatest number, if there is any.
func (s Set) Last() (int, bool) {
	for i := len(s) - 1; i >= 0; i-- {
		if s[i] != 0 {
			return i*wordBits + bits.Len64(s[i]) - 1, true
		}
	}
	return 0, false
}

// All goes through the numbers, the greatest first.
func (s Set) All() iter.Seq[int] {
	return func(yield func(int) bool) {
		for number, more := s.Last(); more; number, more = s.Last() {
			if !yield(number) {
				return
			}
			s = s.Without(Of(number))
		}
	}
}
