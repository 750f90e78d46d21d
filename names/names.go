// Package names says what a name is, and keeps those that are declared.
package names

import (
	"slices"
	"strings"

	"arbiter/api"
	"arbiter/bounds"
)

// Function is a declared name; one without arguments is a number that nobody
// knows.
type Function struct {
	Name  string
	Arity int
}

// Table is the declared names, in the order in which they were declared.
type Table struct {
	functions []Function
}

// Is tells whether a word is a name, declared or not.
func Is(word string) bool {
	return bounds.Within(len(word), 1, api.MaxName) &&
		bounds.AllWithin(word, 'a', 'z') &&
		!isReserved(word)
}

func isReserved(word string) bool {
	switch word {
	case "true", "false", "not", "and", "or", "iff", "le":
		return true
	}
	return false
}

// Find gives the declared function of that name.
func (t *Table) Find(name string) (Function, bool) {
	for _, f := range t.functions {
		if f.Name == name {
			return f, true
		}
	}
	return Function{}, false
}

// Declare makes a name known (P4); the order of the cases is the order of the
// promise's errors.
func (t *Table) Declare(name string, arity int) api.Errno {
	if !Is(name) {
		return api.ErrName
	}
	if !bounds.Within(arity, 0, api.MaxArity) {
		return api.ErrArity
	}
	if _, there := t.Find(name); there {
		return api.ErrThere
	}
	if len(t.functions) >= api.MaxNames {
		return api.ErrFull
	}
	// A copy, as the name may be a small piece of the caller's long text.
	t.functions = append(t.functions, Function{strings.Clone(name), arity})
	return api.OK
}

// Count tells how many names are declared, for a later Cut.
func (t *Table) Count() int {
	return len(t.functions)
}

// Cut leaves the names that were declared first, as many as count says.
func (t *Table) Cut(count int) {
	t.functions = slices.Delete(t.functions, count, len(t.functions))
}
