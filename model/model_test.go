package model

import (
	"testing"

	"arbiter/api"
	"arbiter/names"
	"arbiter/pool"
	"arbiter/syntax"
)

func known() *names.Table {
	table := &names.Table{}
	for name, arity := range map[string]int{"x": 0, "y": 0, "f": 1, "k": 1, "g": 2, "h": 3} {
		table.Declare(name, arity)
	}
	return table
}

// made is the model in which the terms of a formula, in the order in which they
// are kept, have those numbers.
func made(t *testing.T, formula string, numbers ...int) Model {
	t.Helper()
	node, place, errno := syntax.Formula(formula, known())
	if errno != api.OK {
		t.Fatalf("Formula(%q) = %d, %d", formula, place, errno)
	}
	var p pool.Pool
	p.Take(node)
	if len(p.Terms()) != len(numbers) {
		t.Fatalf("%q has %d terms", formula, len(p.Terms()))
	}
	return New(p.Terms(), numbers)
}

func values(t *testing.T, m Model, want map[string]int) {
	t.Helper()
	for text, number := range want {
		node, place, errno := syntax.Term(text, known())
		if errno != api.OK {
			t.Fatalf("Term(%q) = %d, %d", text, place, errno)
		}
		if got := m.Value(node); got != number {
			t.Errorf("Value of %s = %d, want %d", text, got, number)
		}
	}
}

func TestValue(t *testing.T) {
	// The terms: x, (f x), 5, (g x 5), (h 5 x x), (f (g x 5)).
	m := made(t, "(and (= (f x) 5) (< (g x 5) (h 5 x x)) (= x (f (g x 5))))", 2, 5, 5, -3, 9, 70)
	values(t, m, map[string]int{
		"x": 2, "5": 5, "-1000": -1000, "(f x)": 5, "(f 2)": 5, "(g x 5)": -3, "(g 2 5)": -3, "(g x (f x))": -3, "(g 2 (f 2))": -3,
		"(h 5 2 2)": 9, "(h (f x) x 2)": 9, "(f -3)": 70, "(f (g 2 (f 2)))": 70,
	})
}

// What nothing was said of is 0, the same for all.
func TestNothingSaid(t *testing.T) {
	m := made(t, "(= (f x) 5)", 2, 5, 5)
	values(t, m, map[string]int{"y": 0, "(f 3)": 0, "(f y)": 0, "(k x)": 0, "(g 2 2)": 0, "(h x x x)": 0, "(f (f x))": 0, "(f (f (f y)))": 0})
	values(t, Model{}, map[string]int{"x": 0, "7": 7, "(f x)": 0, "(h 1 2 3)": 0})
}

// A name and its places are apart: other functions, other orders, and a place
// that a function does not have.
func TestCallsAreApart(t *testing.T) {
	m := made(t, "(and (= (f x) (k x)) (= (g x 0) (g 0 x)) (= (h x 0 0) x))", 4, 1, 2, 0, 3, 5, 6)
	values(t, m, map[string]int{"(f 4)": 1, "(k 4)": 2, "(g 4 0)": 3, "(g 0 4)": 5, "(h 4 0 0)": 6, "(h 0 4 0)": 0, "(h 0 0 4)": 0, "x": 4})
}
