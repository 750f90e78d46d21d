package arbiter_test

import (
	"testing"

	"arbiter/api"
	"arbiter/arbiter"
)

// P7: 20 frames above the first one, and back.
func TestP7Frames(t *testing.T) {
	s := session(t)
	pop(t, s, api.ErrNone)
	for range 2 {
		for n := range 20 {
			count(t, s, 0, n)
			push(t, s, api.OK)
		}
		for range 3 {
			push(t, s, api.ErrFull)
			count(t, s, 0, 20)
		}
		for n := range 20 {
			count(t, s, 0, 20-n)
			pop(t, s, api.OK)
		}
		for range 3 {
			pop(t, s, api.ErrNone)
			count(t, s, 0, 0)
		}
	}
}

// P7, P3: a Pop that is refused leaves what is in the first frame.
func TestP7FirstFrameStays(t *testing.T) {
	s := session(t)
	lay(t, s, "(= x y)", "(= x (f y))")
	for range 3 {
		pop(t, s, api.ErrNone)
		count(t, s, 2, 0)
		declare(t, s, "x", 0, api.ErrThere)
		tidy(t, s, "(= x (f y))", "(= x (f y))")
	}
}

// P7: a Push that is refused begins no frame: one Pop takes all of the last.
func TestP7RefusedPush(t *testing.T) {
	s := session(t)
	for range 20 {
		push(t, s, api.OK)
	}
	lay(t, s, "true")
	declare(t, s, "a", 0, api.OK)
	push(t, s, api.ErrFull)
	lay(t, s, "(= a x)")
	declare(t, s, "b", 0, api.OK)
	count(t, s, 2, 20)
	pop(t, s, api.OK)
	count(t, s, 0, 19)
	refuse(t, s, "(= a x)", 3, api.ErrName)
	refuse(t, s, "(= b x)", 3, api.ErrName)
}

// P7: each frame takes its own formulas with it, and no other.
func TestP7FormulasGo(t *testing.T) {
	s := session(t)
	lay(t, s, "true")
	for n := range 5 {
		push(t, s, api.OK)
		for range n {
			lay(t, s, "(= x y)")
		}
	}
	for n, formulas := range []int{11, 7, 4, 2, 1, 1} {
		count(t, s, formulas, 5-n)
		if n < 5 {
			pop(t, s, api.OK)
		}
	}
	push(t, s, api.OK)
	for range 19 {
		lay(t, s, "false")
	}
	assert(t, s, "false", 0, api.ErrFull)
	pop(t, s, api.OK)
	for n := range 19 {
		count(t, s, n+1, 0)
		lay(t, s, "false")
	}
	assert(t, s, "false", 0, api.ErrFull)
}

// P7, P4: names go with the frame in which they were declared, and can be
// declared anew, otherwise too.
func TestP7NamesGo(t *testing.T) {
	s := arbiter.New()
	declare(t, s, "x", 0, api.OK)
	push(t, s, api.OK)
	declare(t, s, "x", 0, api.ErrThere)
	declare(t, s, "a", 1, api.OK)
	push(t, s, api.OK)
	declare(t, s, "b", 2, api.OK)
	lay(t, s, "(= (a x) (b x (a x)))")
	pop(t, s, api.OK)
	assert(t, s, "(= (b x x) x)", 4, api.ErrName)
	refuse(t, s, "(= b x)", 3, api.ErrName)
	declare(t, s, "a", 0, api.ErrThere)
	lay(t, s, "(= (a x) x)")
	declare(t, s, "b", 0, api.OK)
	lay(t, s, "(= (a x) b)")
	pop(t, s, api.OK)
	for _, name := range []string{"a", "b"} {
		assert(t, s, "(= "+name+" x)", 3, api.ErrName)
		assert(t, s, "(= ("+name+" x) x)", 4, api.ErrName)
		declare(t, s, name, 3, api.OK)
		lay(t, s, "(= ("+name+" x x x) x)")
	}
	declare(t, s, "x", 1, api.ErrThere)
	count(t, s, 2, 0)
}

// P7, P4: names that went leave their room.
func TestP7RoomForNames(t *testing.T) {
	s := arbiter.New()
	declare(t, s, "x", 0, api.OK)
	for range 3 {
		push(t, s, api.OK)
		for n := range 19 {
			declare(t, s, letters(n), 0, api.OK)
		}
		declare(t, s, "y", 0, api.ErrFull)
		push(t, s, api.OK)
		declare(t, s, "y", 0, api.ErrFull)
		pop(t, s, api.OK)
		declare(t, s, "y", 0, api.ErrFull)
		pop(t, s, api.OK)
	}
	declare(t, s, "y", 0, api.OK)
	tidy(t, s, "(= x y)", "(= x y)")
	refuse(t, s, "(= na y)", 3, api.ErrName)
}

// P7, P6: terms and atoms that went leave their room; those that stand in a
// frame below as well are still there.
func TestP7RoomForTermsAndAtoms(t *testing.T) {
	s := session(t)
	lay(t, s, "(= x (f x))")
	for range 3 {
		push(t, s, api.OK)
		lay(t, s, "(= (f x) "+nested(11)+")")
		assert(t, s, "(= x 1)", 0, api.ErrTerms)
		pop(t, s, api.OK)
		push(t, s, api.OK)
		lay(t, s, "(and (= x (f x))"+bounded("x", 0, 15)+")")
		assert(t, s, "(= x x)", 0, api.ErrAtoms)
		pop(t, s, api.OK)
	}
	lay(t, s, "(and"+bounded("1", 0, 8)+")", "(and"+bounded("2", 0, 7)+")")
	assert(t, s, "(= x x)", 0, api.ErrAtoms)
	lay(t, s, "(= x (f x))")
	assert(t, s, "(= x "+nested(10)+")", 0, api.ErrTerms)
	count(t, s, 4, 0)
}

// P7: a term counts as long as any formula has it, though the frame in which it
// was also written is gone.
func TestP7SharedTermStays(t *testing.T) {
	s := session(t)
	lay(t, s, "(= x "+nested(10)+")") // 11
	push(t, s, api.OK)
	lay(t, s, "(= 1 x)") // 12
	push(t, s, api.OK)
	lay(t, s, "(= 1 (f x))", "(= x 1)", "(= 1 x)")
	pop(t, s, api.OK)
	assert(t, s, "(= 2 x)", 0, api.ErrTerms)
	lay(t, s, "(= 1 (f x))")
	pop(t, s, api.OK)
	lay(t, s, "(= 2 x)")
	assert(t, s, "(= 1 x)", 0, api.ErrTerms)
}

// P7: a name that is declared anew has terms of its own.
func TestP7NameDeclaredAnew(t *testing.T) {
	s := arbiter.New()
	declare(t, s, "x", 0, api.OK)
	lay(t, s, "(and (= 1 2) (= 3 4) (= 5 6) (= 7 8) (= 9 x))") // 10
	for _, c := range []struct {
		arity int
		text  string
	}{{1, "(= (a x) (a 1))"}, {2, "(= (a x x) (a x 1))"}, {3, "(= (a x x x) (a x x 1))"}, {1, "(= (a x) (a (a x)))"}} {
		push(t, s, api.OK)
		declare(t, s, "a", c.arity, api.OK)
		lay(t, s, c.text)
		assert(t, s, "(= x 10)", 0, api.ErrTerms)
		lay(t, s, c.text)
		count(t, s, 3, 1)
		pop(t, s, api.OK)
	}
	count(t, s, 1, 0)
}

// P2: frames and formulas are the session's own.
func TestP7SessionsAreApart(t *testing.T) {
	one, other := session(t), session(t)
	push(t, one, api.OK)
	pop(t, other, api.ErrNone)
	for range 20 {
		lay(t, one, "(= x "+nested(11)+")")
	}
	assert(t, one, "true", 0, api.ErrFull)
	count(t, other, 0, 0)
	lay(t, other, "(= y 1)")
	push(t, other, api.OK)
	push(t, other, api.OK)
	pop(t, one, api.OK)
	pop(t, one, api.ErrNone)
	count(t, one, 0, 0)
	count(t, other, 1, 2)
}
