// Package model keeps a model: what each name means.
package model

import (
	"arbiter/api"
	"arbiter/names"
	"arbiter/pool"
	"arbiter/syntax"
)

// Model gives each name without arguments a number, each other one a function.
// Where nothing was said of what they give, it is 0.
type Model struct {
	results map[call]int
}

// call is a function and the numbers that it is given. A place beyond its arity
// is 0.
type call struct {
	function  names.Function
	arguments [api.MaxArity]int
}

// New makes the model in which each term means its number. Where the same
// function is given the same, the numbers must be the same too.
func New(terms []pool.Term, numbers []int) Model {
	m := Model{results: make(map[call]int)}
	for n, term := range terms {
		if term.IsNumber() {
			continue
		}
		made := call{function: term.Function}
		for i := range term.Function.Arity {
			made.arguments[i] = numbers[term.Arguments[i]]
		}
		m.results[made] = numbers[n]
	}
	return m
}

// Value is what a term means.
func (m Model) Value(term syntax.Node) int {
	if term.Kind == syntax.Number {
		return term.Value
	}
	made := call{function: names.Function{Name: term.Word, Arity: len(term.Parts)}}
	for i, part := range term.Parts {
		made.arguments[i] = m.Value(part)
	}
	return m.results[made]
}
