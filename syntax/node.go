// Package syntax reads formulas and terms, tells what is wrong with them and
// where, and writes them in their one form.
package syntax

import (
	"strconv"
	"strings"
)

// Kind is what sort of thing a part of a formula is.
type Kind int

const (
	Truth      Kind = iota // true, false
	Connective             // not, and, or, =>, iff
	Atom                   // =, <, <=, le
	Name                   // a name, by itself or with its terms
	Number                 // a number that is a term
	Bound                  // the number of a le, which is no term
)

// Node is a formula, a term, or the number of a le. It shares no memory with
// the text that it was read from.
type Node struct {
	Kind  Kind
	Word  string // what it begins with; none, if it is a number
	Value int    // what a number is
	Parts []Node
}

// OneForm writes the node with one blank between each two tokens, but none
// inside of a bracket's edge.
func (n Node) OneForm() string {
	var out strings.Builder
	n.write(&out)
	return out.String()
}

func (n Node) write(out *strings.Builder) {
	if !n.hasBrackets() {
		out.WriteString(n.token())
		return
	}
	out.WriteByte('(')
	out.WriteString(n.token())
	for _, part := range n.Parts {
		out.WriteByte(' ')
		part.write(out)
	}
	out.WriteByte(')')
}

// A connective has its brackets even around nothing, as in (and); a name only
// around its terms.
func (n Node) hasBrackets() bool {
	return n.Kind == Connective || n.Kind == Atom || len(n.Parts) > 0
}

func (n Node) token() string {
	if n.Kind == Number || n.Kind == Bound {
		return strconv.Itoa(n.Value)
	}
	return n.Word
}
