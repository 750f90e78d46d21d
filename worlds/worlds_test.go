package worlds

import (
	"math/rand"
	"testing"

	"arbiter/pool"
	"arbiter/syntax"
)

// world tells whether an atom is true in the world of that number.
func world(number, atom int) bool {
	return number>>atom&1 == 1
}

func (s Set) has(number int) bool {
	return s[number/64]>>(number%64)&1 == 1
}

func same(t *testing.T, what string, s Set, atoms int, want func(number int) bool) {
	t.Helper()
	empty := true
	for number := range 1 << atoms {
		if s.has(number) != want(number) {
			t.Fatalf("%s of %d atoms: world %b is wrong", what, atoms, number)
		}
		empty = empty && !want(number)
	}
	if s.Empty() != empty {
		t.Errorf("%s of %d atoms: Empty = %t", what, atoms, s.Empty())
	}
}

func TestSets(t *testing.T) {
	r := rand.New(rand.NewSource(2))
	for atoms := range 17 {
		same(t, "None", None(atoms), atoms, func(int) bool { return false })
		same(t, "All", All(atoms), atoms, func(int) bool { return true })
		one, other := anySet(r, atoms), anySet(r, atoms)
		inOne, inOther := one.has, other.has
		same(t, "And", one.And(other), atoms, func(n int) bool { return inOne(n) && inOther(n) })
		same(t, "Or", one.Or(other), atoms, func(n int) bool { return inOne(n) || inOther(n) })
		same(t, "Not", one.Not(), atoms, func(n int) bool { return !inOne(n) })
		for atom := range atoms {
			same(t, "Where yes", Where(atoms, atom, true), atoms, func(n int) bool { return world(n, atom) })
			same(t, "Where no", Where(atoms, atom, false), atoms, func(n int) bool { return !world(n, atom) })
		}
	}
}

// anySet has of few atoms the same worlds again and again, until the word is
// full.
func anySet(r *rand.Rand, atoms int) Set {
	s := None(atoms)
	for i := range s {
		s[i] = r.Uint64() & r.Uint64()
		for few := atoms; few < atomsOfWord; few++ {
			s[i] &= 1<<(1<<few) - 1
			s[i] |= s[i] << (1 << few)
		}
	}
	return s
}

func TestOneWorldIsNotEmpty(t *testing.T) {
	for number := range 1 << 9 {
		one := All(9)
		for atom := range 9 {
			one = one.And(Where(9, atom, world(number, atom)))
		}
		same(t, "one world", one, 9, func(n int) bool { return n == number })
	}
}

// Worlds beyond the atoms in use may be counted too, but on both sides alike.
func TestVotes(t *testing.T) {
	r := rand.New(rand.NewSource(3))
	for atoms := 6; atoms <= 16; atoms++ {
		s := anySet(r, atoms)
		for atom := range atoms {
			wantYes, wantNo := 0, 0
			for number := range 1 << atoms {
				if s.has(number) && world(number, atom) {
					wantYes++
				} else if s.has(number) {
					wantNo++
				}
			}
			if yes, no := s.Votes(atom); yes != wantYes || no != wantNo {
				t.Errorf("Votes(%d) of %d atoms = %d, %d, want %d, %d", atom, atoms, yes, no, wantYes, wantNo)
			}
		}
	}
	if yes, no := Where(2, 1, true).Votes(1); yes == 0 || no != 0 {
		t.Errorf("Votes = %d, %d", yes, no)
	}
	if yes, no := All(2).Votes(1); yes != no {
		t.Errorf("Votes = %d, %d", yes, no)
	}
}

// Sets are new memory: those that they were made from stay as they are.
func TestSetsStay(t *testing.T) {
	one, other := Where(8, 1, true), Where(8, 7, true)
	one.Not()
	one.And(other)
	one.Or(other)
	same(t, "one", one, 8, func(n int) bool { return world(n, 1) })
	same(t, "other", other, 8, func(n int) bool { return world(n, 7) })
}

func atom(n int) pool.Formula {
	return pool.Formula{Kind: syntax.Atom, Atom: n}
}

func truth(word string) pool.Formula {
	return pool.Formula{Kind: syntax.Truth, Word: word}
}

func connect(word string, parts ...pool.Formula) pool.Formula {
	return pool.Formula{Kind: syntax.Connective, Word: word, Parts: parts}
}

func TestConnectives(t *testing.T) {
	a, b, c := atom(0), atom(7), atom(2)
	for _, one := range []struct {
		name    string
		formula pool.Formula
		want    func(a, b, c bool) bool
	}{
		{"true", truth("true"), func(a, b, c bool) bool { return true }},
		{"false", truth("false"), func(a, b, c bool) bool { return false }},
		{"atom", b, func(a, b, c bool) bool { return b }},
		{"not", connect("not", c), func(a, b, c bool) bool { return !c }},
		{"=>", connect("=>", a, b), func(a, b, c bool) bool { return !a || b }},
		{"iff", connect("iff", a, b), func(a, b, c bool) bool { return a == b }},
		{"and of none", connect("and"), func(a, b, c bool) bool { return true }},
		{"and of one", connect("and", a), func(a, b, c bool) bool { return a }},
		{"and of three", connect("and", a, b, c), func(a, b, c bool) bool { return a && b && c }},
		{"or of none", connect("or"), func(a, b, c bool) bool { return false }},
		{"or of one", connect("or", a), func(a, b, c bool) bool { return a }},
		{"or of three", connect("or", a, b, c), func(a, b, c bool) bool { return a || b || c }},
		{"one in another", connect("not", connect("=>", connect("iff", a, truth("false")), connect("or", b, connect("and", a, c)))),
			func(a, b, c bool) bool { return !(!(a == false) || (b || a && c)) }},
	} {
		same(t, one.name, Of(one.formula, 8), 8, func(n int) bool { return one.want(world(n, 0), world(n, 7), world(n, 2)) })
	}
	same(t, "OfAll", OfAll([]pool.Formula{a, connect("not", b)}, 8), 8, func(n int) bool { return world(n, 0) && !world(n, 7) })
	same(t, "OfAll of none", OfAll(nil, 0), 0, func(int) bool { return true })
}
