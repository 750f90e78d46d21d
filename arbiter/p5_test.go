package arbiter_test

import (
	"strings"
	"testing"

	"arbiter/api"
	"arbiter/arbiter"
)

// The first row of the document's examples.
func TestP5Examples(t *testing.T) {
	s := arbiter.New()
	declare(t, s, "x", 0, api.OK)
	declare(t, s, "y", 0, api.OK)
	declare(t, s, "f", 1, api.OK)
	tidy(t, s, " ( =  (f x)  y)", "(= (f x) y)")
	refuse(t, s, "(= f y)", 3, api.ErrArity)
	refuse(t, s, "(= (f x y) y)", 8, api.ErrArity)
	refuse(t, s, "(= (f) y)", 5, api.ErrArity)
	refuse(t, s, "(and (= x z))", 10, api.ErrName)
	refuse(t, s, "(= x 1001)", 5, api.ErrNumber)
	refuse(t, s, "(= x", 4, api.ErrForm)
	refuse(t, s, "x", 0, api.ErrForm)
}

func TestP5OneForm(t *testing.T) {
	s := session(t)
	for text, want := range map[string]string{
		"true": "true", "\tfalse\n": "false", "(and)": "(and)", "( or )": "(or)",
		"(and true false(and)(or true))":                     "(and true false (and) (or true))",
		"(not(not true))":                                    "(not (not true))",
		"(=>(and)(iff true false))":                          "(=> (and) (iff true false))",
		"(<(g x(f -1))(h(f y)0 abcdefgh))":                   "(< (g x (f -1)) (h (f y) 0 abcdefgh))",
		"(\n<=\n-1000\n1000\n)":                              "(<= -1000 1000)",
		"(le x 5 -1000)":                                     "(le x 5 -1000)",
		"(le(f(f x))(f(f y))1000)":                           "(le (f (f x)) (f (f y)) 1000)",
		"(= 0 1)":                                            "(= 0 1)",
		"(and (= x y)(= x y)(or (< x y)) (not (le x y 0)) )": "(and (= x y) (= x y) (or (< x y)) (not (le x y 0)))",
	} {
		tidy(t, s, text, want)
		tidy(t, s, want, want)
	}
}

func TestP5Long(t *testing.T) {
	s := session(t)
	for _, text := range []string{"true", "(= x y)", ")", "(= z 1001)", ""} {
		at601 := text + strings.Repeat(" ", 601-len(text))
		refuse(t, s, at601, 0, api.ErrLong)
		refuse(t, s, strings.Repeat(at601, 1000), 0, api.ErrLong)
		agree(t, s, at601[:600])
	}
	tidy(t, s, "true"+strings.Repeat(" ", 596), "true")
	full := "(and" + strings.Repeat(" true", 119) + ")"
	tidy(t, s, full, full)
	refuse(t, s, full[:599], 599, api.ErrForm)
	refuse(t, s, full+" ", 0, api.ErrLong)
}

func TestP5Form(t *testing.T) {
	s := session(t)
	for text, place := range map[string]int{
		"": 0, " \t\n": 3, "(": 1, "( ": 2, ")": 0, " x": 1, "1": 0, "and": 0, "=": 0, "True": 0, "true)": 4, "true true": 5, "true x": 5, "true z": 5, "(and) (": 6,
		"()": 1, "((": 1, "((and))": 1, "(true)": 1, "(x)": 1, "(f x)": 1, "(5)": 1, "(==": 1, "(=x y)": 1, "(>= x y)": 1, "(z)": 1,
		"(not)": 4, "(not true false)": 10, "(not true (": 10, "(not x)": 5, "(not true": 9, "(and x)": 5, "(and 1)": 5, "(and z)": 5, "(and true": 9, "(or": 3, "(and and)": 5,
		"(=> true)": 8, "(=> true true true)": 14, "(iff)": 4, "(iff true": 9,
		"(=)": 2, "(= x)": 4, "(= x": 4, "(= x y": 6, "(= x y x)": 7, "(= x y (": 7, "(= x y z)": 7, "(= x y 1001)": 7, "(= true x)": 3, "(= = x)": 3, "(= not x)": 3, "(= le x)": 3, "(= X y)": 3, "(= abcdefghi y)": 3, "(= x1 y)": 3, "(= é y)": 3,
		"(= 00 x)": 3, "(= 01 x)": 3, "(= -0 x)": 3, "(= -01 x)": 3, "(= - x)": 3, "(= --1 x)": 3, "(= +1 x)": 3, "(= 1x x)": 3, "(= 1.5 x)": 3, "(= 01001 x)": 3, "(= -00 x)": 3,
		"(= () x)": 4, "(= ((f x)) x)": 4, "(= (1 x) x)": 4, "(= (le x) x)": 4, "(= (= x) x)": 4, "(= (F x) x)": 4, "(= (": 4, "(= (f": 5, "(= (f x": 7, "(= (f x  ": 9, "(= (f true) x)": 6, "(= (f 00) x)": 6,
		"(le x y)": 7, "(le x y": 7, "(le x y x)": 8, "(le x y z)": 8, "(le x y (f x))": 8, "(le x y 1 2)": 10, "(le x y -0)": 8, "(le x y 00)": 8, "(le x y 1": 9, "(le)": 3,
		"true\r": 0, "true\v": 0, "true\x00": 0, "(= x\r y)": 3, "true\u00a0": 0,
	} {
		refuse(t, s, text, place, api.ErrForm)
	}
}

func TestP5Name(t *testing.T) {
	s := session(t)
	for text, place := range map[string]int{
		"(= z y)": 3, "(= x z": 5, "(= x  zzzzzzzz)": 6, "(= (z x) y)": 4, "(= (z) y)": 4, "(= (f z) y)": 6, "(le x z": 6, "(<= (g x z": 9, "(= abcdefg x)": 3, "(= ff x)": 3, "(not(< z": 7,
	} {
		refuse(t, s, text, place, api.ErrName)
	}
}

func TestP5Arity(t *testing.T) {
	s := session(t)
	for text, place := range map[string]int{
		"(= f y)": 3, "(= x g)": 5, "(= (f f) y)": 6, "(= (f g": 6, // by itself, with arguments
		"(= (x y) y)": 4, "(= (x) y)": 4, "(= (x": 4, "(= x (abcdefgh": 6, // behind (, with none
		"(= (f) y)": 5, "(= (g) y)": 5, "(= (g x) y)": 7, "(= (h x y) y)": 9, "(= (f (g x)) y)": 10, "(= (h)": 5, // terms are lacking
		"(= (f x y) y)": 8, "(= (f x z) y)": 8, "(= (f x 1001": 8, "(= (f x 00": 8, "(= (f x (": 8, "(= (f x =": 8, "(= (f x f": 8, "(= (g x y Q": 10, "(= (h 1 2 3 4)": 12, "(= (f (f x) \xff": 12, // behind all terms
	} {
		refuse(t, s, text, place, api.ErrArity)
	}
	deep := "(= x " + strings.Repeat("(f ", 29) + "x "
	refuse(t, s, deep+"(", len(deep), api.ErrArity)
}

func TestP5Number(t *testing.T) {
	s := session(t)
	for _, number := range []string{"1001", "-1001", "9999", "10000", "-10000", "2147483648", "4294967296", "9223372036854775808", "18446744073709551616", "-18446744073709551617", strings.Repeat("9", 500), "1" + strings.Repeat("0", 500)} {
		refuse(t, s, "(= "+number+" x)", 3, api.ErrNumber)
		refuse(t, s, "(= (f "+number+") x)", 6, api.ErrNumber)
		refuse(t, s, "(le x y "+number+")", 8, api.ErrNumber)
		refuse(t, s, "(and "+number+")", 5, api.ErrForm)
		refuse(t, s, "(= ("+number+" x) x)", 4, api.ErrForm)
	}
	for _, number := range []string{"0", "1", "-1", "999", "1000", "-999", "-1000"} {
		tidy(t, s, "(le "+number+"  "+number+" "+number+")", "(le "+number+" "+number+" "+number+")")
	}
}

func TestP5Deep(t *testing.T) {
	s := session(t)
	at30 := strings.Repeat("(not ", 30)
	tidy(t, s, at30+"true"+strings.Repeat(")", 30), at30+"true"+strings.Repeat(")", 30))
	refuse(t, s, at30+"(", 150, api.ErrDeep)
	refuse(t, s, at30+"(and)"+strings.Repeat(")", 30), 150, api.ErrDeep)
	refuse(t, s, at30+"x", 150, api.ErrForm)
	refuse(t, s, at30+"true (", 155, api.ErrForm)

	terms := "(= x " + strings.Repeat("(f ", 29)
	tidy(t, s, terms+"x"+strings.Repeat(")", 30), terms+"x"+strings.Repeat(")", 30))
	refuse(t, s, terms+"(", len(terms), api.ErrDeep)
	refuse(t, s, terms+"(z", len(terms), api.ErrDeep)
	refuse(t, s, strings.Repeat("(not ", 29)+"(= x (f x))", 150, api.ErrDeep)

	// Brackets that are closed again do not count.
	beside := "(and" + strings.Repeat(" (and)", 60) + ")"
	tidy(t, s, beside, beside)
	high := strings.Repeat("(and ", 29) + "(and) (and)" + strings.Repeat(")", 29)
	tidy(t, s, high, high)
	refuse(t, s, strings.Repeat("(", 600), 1, api.ErrForm)
}
