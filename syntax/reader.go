package syntax

import (
	"slices"

	"arbiter/api"
	"arbiter/bounds"
	"arbiter/names"
	"arbiter/token"
)

// shape is what stands behind the first word of a bracketed formula.
type shape int

const (
	oneFormula shape = iota
	twoFormulas
	anyFormulas
	twoTerms
	twoTermsAndBound
)

type head struct {
	word  string
	kind  Kind
	shape shape
}

var heads = [...]head{
	{"not", Connective, oneFormula},
	{"and", Connective, anyFormulas},
	{"or", Connective, anyFormulas},
	{"=>", Connective, twoFormulas},
	{"iff", Connective, twoFormulas},
	{"=", Atom, twoTerms},
	{"<", Atom, twoTerms},
	{"<=", Atom, twoTerms},
	{"le", Atom, twoTermsAndBound},
}

func headOf(word string) (head, bool) {
	for _, h := range heads {
		if h.word == word {
			return h, true
		}
	}
	return head{}, false
}

// reader goes over the tokens once, from the left to the right. Its methods
// answer false as soon as something is wrong; place and errno then tell what.
type reader struct {
	tokens []token.Token // what is still to be read; the last one is an End
	names  *names.Table
	depth  int // brackets that are open
	place  int
	errno  api.Errno
}

// Formula reads a text as a formula. With an error the node is empty and the
// number is the error's place (P5).
func Formula(text string, known *names.Table) (Node, int, api.Errno) {
	return read(text, known, (*reader).formula)
}

// Term reads a text as a term, with the same errors (P9).
func Term(text string, known *names.Table) (Node, int, api.Errno) {
	return read(text, known, (*reader).term)
}

func read(text string, known *names.Table, whole func(*reader) (Node, bool)) (Node, int, api.Errno) {
	if len(text) > api.MaxText {
		return Node{}, 0, api.ErrLong
	}
	r := reader{tokens: token.Split(text), names: known}
	node, ok := whole(&r)
	if !ok || !r.end() {
		return Node{}, r.place, r.errno
	}
	return node, 0, api.OK
}

func (r *reader) next() token.Token {
	return r.tokens[0]
}

// The End is never passed, so that there is always a next token.
func (r *reader) pass() {
	if r.next().Kind != token.End {
		r.tokens = r.tokens[1:]
	}
}

func (r *reader) refuse(errno api.Errno) bool {
	r.place, r.errno = r.next().Place, errno
	return false
}

func (r *reader) end() bool {
	return r.next().Kind == token.End || r.refuse(api.ErrForm)
}

func (r *reader) open() bool {
	if r.depth >= api.MaxDepth {
		return r.refuse(api.ErrDeep)
	}
	r.depth++
	r.pass()
	return true
}

// close takes a bracket; surplus is what any other token is there. A text that
// ends there has no token to be surplus.
func (r *reader) close(surplus api.Errno) bool {
	switch r.next().Kind {
	case token.Close:
		r.depth--
		r.pass()
		return true
	case token.End:
		return r.refuse(api.ErrForm)
	}
	return r.refuse(surplus)
}

func (r *reader) formula() (Node, bool) {
	if r.next().Kind == token.Open {
		return r.bracketed()
	}
	switch r.next().Text {
	case "true":
		r.pass()
		return Node{Kind: Truth, Word: "true"}, true
	case "false":
		r.pass()
		return Node{Kind: Truth, Word: "false"}, true
	}
	return Node{}, r.refuse(api.ErrForm)
}

func (r *reader) bracketed() (Node, bool) {
	if !r.open() {
		return Node{}, false
	}
	h, ok := headOf(r.next().Text)
	if !ok {
		return Node{}, r.refuse(api.ErrForm)
	}
	r.pass()
	parts, ok := r.parts(h.shape)
	if !ok || !r.close(api.ErrForm) {
		return Node{}, false
	}
	return Node{Kind: h.kind, Word: h.word, Parts: parts}, true
}

func (r *reader) parts(s shape) ([]Node, bool) {
	switch s {
	case oneFormula:
		return r.row(r.formula)
	case twoFormulas:
		return r.row(r.formula, r.formula)
	case twoTerms:
		return r.row(r.term, r.term)
	case twoTermsAndBound:
		return r.row(r.term, r.term, r.bound)
	}
	return r.formulasUpToClose()
}

// way reads one part.
type way = func() (Node, bool)

// row reads one part after the other, each in its own way.
func (r *reader) row(ways ...way) ([]Node, bool) {
	var parts []Node
	for _, read := range ways {
		part, ok := read()
		if !ok {
			return nil, false
		}
		parts = append(parts, part)
	}
	return parts, true
}

func (r *reader) formulasUpToClose() ([]Node, bool) {
	var parts []Node
	for r.next().Kind != token.Close {
		part, ok := r.formula()
		if !ok {
			return nil, false
		}
		parts = append(parts, part)
	}
	return parts, true
}

func (r *reader) term() (Node, bool) {
	if r.next().Kind == token.Open {
		return r.application()
	}
	if names.Is(r.next().Text) {
		return r.constant()
	}
	return r.number(Number)
}

func (r *reader) constant() (Node, bool) {
	f, ok := r.declared()
	if !ok {
		return Node{}, false
	}
	if f.Arity > 0 {
		return Node{}, r.refuse(api.ErrArity)
	}
	r.pass()
	return Node{Kind: Name, Word: f.Name}, true
}

func (r *reader) application() (Node, bool) {
	if !r.open() {
		return Node{}, false
	}
	f, ok := r.declared()
	if !ok {
		return Node{}, false
	}
	if f.Arity == 0 {
		return Node{}, r.refuse(api.ErrArity)
	}
	r.pass()
	terms, ok := r.row(slices.Repeat([]way{r.argument}, f.Arity)...)
	if !ok || !r.close(api.ErrArity) {
		return Node{}, false
	}
	return Node{Kind: Name, Word: f.Name, Parts: terms}, true
}

// argument reads a term of a name, where a bracket too early is about the
// name's arity.
func (r *reader) argument() (Node, bool) {
	if r.next().Kind == token.Close {
		return Node{}, r.refuse(api.ErrArity)
	}
	return r.term()
}

// declared looks the next token up, but does not pass it: its arity may still
// be wrong.
func (r *reader) declared() (names.Function, bool) {
	word := r.next().Text
	if !names.Is(word) {
		return names.Function{}, r.refuse(api.ErrForm)
	}
	f, ok := r.names.Find(word)
	if !ok {
		return names.Function{}, r.refuse(api.ErrName)
	}
	return f, true
}

func (r *reader) bound() (Node, bool) {
	return r.number(Bound)
}

func (r *reader) number(kind Kind) (Node, bool) {
	value, ok := readNumber(r.next().Text)
	if !ok {
		return Node{}, r.refuse(api.ErrForm)
	}
	if !bounds.Within(value, -api.MaxNumber, api.MaxNumber) {
		return Node{}, r.refuse(api.ErrNumber)
	}
	r.pass()
	return Node{Kind: kind, Value: value}, true
}
