package arbiter_test

import (
	"math"
	"strings"
	"testing"

	"arbiter/api"
	"arbiter/arbiter"
)

func TestP4WhatIsAName(t *testing.T) {
	for _, name := range []string{"a", "z", "abcdefgh", "zzzzzzzz", "let", "truer", "tru", "i", "ifff", "nota", "l"} {
		s := arbiter.New()
		declare(t, s, name, 0, api.OK)
		tidy(t, s, "(= "+name+" 0)", "(= "+name+" 0)")
	}
	s := arbiter.New()
	for _, name := range []string{"", "abcdefghi", strings.Repeat("a", 100000), "A", "xY", "a1", "1", "-1", "a b", " a", "a ", "a\n", "a\x00", "é", "ａ", "\xff", "_", "(", ")", "(a)", "=", "=>", "<", "<=", "true", "false", "not", "and", "or", "iff", "le"} {
		declare(t, s, name, 0, api.ErrName)
	}
}

func TestP4Arity(t *testing.T) {
	s := arbiter.New()
	for _, arity := range []int{-1, 4, 256, -256, 1 << 32, math.MinInt, math.MaxInt} {
		declare(t, s, "f", arity, api.ErrArity)
	}
	terms := ""
	for arity := range 4 {
		name := letters(arity)
		declare(t, s, name, arity, api.OK)
		if arity > 0 {
			terms += " 1"
			tidy(t, s, "(= ("+name+terms+") 1)", "(= ("+name+terms+") 1)")
		}
	}
	tidy(t, s, "(= na 1)", "(= na 1)")
}

func TestP4There(t *testing.T) {
	s := arbiter.New()
	declare(t, s, "f", 1, api.OK)
	for arity := range 4 {
		declare(t, s, "f", arity, api.ErrThere)
	}
	tidy(t, s, "(= (f 1) 1)", "(= (f 1) 1)")
	declare(t, s, "ff", 1, api.OK)
}

func TestP4Full(t *testing.T) {
	s := arbiter.New()
	for n := range 20 {
		declare(t, s, letters(n), n%4, api.OK)
	}
	declare(t, s, "z", 0, api.ErrFull)
	declare(t, s, "z", 3, api.ErrFull)
	for n := range 20 {
		declare(t, s, letters(n), 0, api.ErrThere)
	}
	tidy(t, s, "(= na (nt 1 2 3))", "(= na (nt 1 2 3))")
}
