// Package worlds keeps sets of worlds. A world says of each atom whether it is
// true; there are few atoms, so that all worlds can be kept, a bit each.
package worlds

import (
	"math/bits"
	"slices"
)

// atomsOfWord is how many atoms the bits of one word tell apart.
const atomsOfWord = 6

// patterns are the bits of a word at whose places one of the first atoms is
// true.
var patterns = [atomsOfWord]uint64{
	0xAAAAAAAAAAAAAAAA,
	0xCCCCCCCCCCCCCCCC,
	0xF0F0F0F0F0F0F0F0,
	0xFF00FF00FF00FF00,
	0xFFFF0000FFFF0000,
	0xFFFFFFFF00000000,
}

// Set is a set of worlds: bit n of all its words in a row is the world in which
// the atoms are true that are bits of n. Sets are of use together only if they
// are about equally many atoms.
type Set []uint64

// None is the set of no world.
func None(atoms int) Set {
	return make(Set, 1<<max(0, atoms-atomsOfWord))
}

// All is the set of all worlds.
func All(atoms int) Set {
	return None(atoms).Not()
}

// Where is the set of the worlds that answer yes or no to an atom.
func Where(atoms, atom int, yes bool) Set {
	s := None(atoms)
	for i := range s {
		s[i] = pattern(i, atom)
	}
	if yes {
		return s
	}
	return s.Not()
}

// pattern is the bits of one word at whose places an atom is true.
func pattern(word, atom int) uint64 {
	if atom < atomsOfWord {
		return patterns[atom]
	}
	if word>>(atom-atomsOfWord)&1 == 1 {
		return ^uint64(0)
	}
	return 0
}

// Not is all other worlds.
func (s Set) Not() Set {
	s = slices.Clone(s)
	for i := range s {
		s[i] = ^s[i]
	}
	return s
}

// And is the worlds that are in both.
func (s Set) And(other Set) Set {
	s = slices.Clone(s)
	for i := range s {
		s[i] &= other[i]
	}
	return s
}

// Or is the worlds that are in one of the two.
func (s Set) Or(other Set) Set {
	s = slices.Clone(s)
	for i := range s {
		s[i] |= other[i]
	}
	return s
}

// Empty tells whether there is no world.
func (s Set) Empty() bool {
	return !slices.ContainsFunc(s, func(word uint64) bool { return word != 0 })
}

// Votes counts the worlds in which an atom is true, and those in which it is
// not.
func (s Set) Votes(atom int) (int, int) {
	yes, no := 0, 0
	for i, word := range s {
		where := pattern(i, atom)
		yes += bits.OnesCount64(word & where)
		no += bits.OnesCount64(word &^ where)
	}
	return yes, no
}
