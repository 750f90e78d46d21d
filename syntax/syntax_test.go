package syntax

import (
	"reflect"
	"strings"
	"testing"

	"arbiter/api"
	"arbiter/names"
)

func table() *names.Table {
	known := &names.Table{}
	known.Declare("x", 0)
	known.Declare("f", 1)
	known.Declare("h", 3)
	return known
}

func TestReadNumber(t *testing.T) {
	for word, want := range map[string]int{"0": 0, "1": 1, "-1": -1, "10": 10, "999": 999, "1000": 1000, "-1000": -1000, "1001": tooGreat, "-1001": -tooGreat, "18446744073709551616": tooGreat, "-" + strings.Repeat("9", 500): -tooGreat} {
		if got, ok := readNumber(word); got != want || !ok {
			t.Errorf("readNumber(%q) = %d, %t", word, got, ok)
		}
	}
	for _, word := range []string{"", "-", "--1", "-0", "00", "01", "-01", "+1", "1-", "1a", "a", "1.0", "1 ", "0x1", "1_0", "٣", "\xff", "(", ")"} {
		if got, ok := readNumber(word); got != 0 || ok {
			t.Errorf("readNumber(%q) = %d, %t", word, got, ok)
		}
	}
}

// Which kind a part has decides later on whether it counts as a term.
func TestKinds(t *testing.T) {
	node, place, errno := Formula("(and true (le (h x 1 (f x)) x 1))", table())
	if place != 0 || errno != api.OK {
		t.Fatalf("Formula = %d, %d", place, errno)
	}
	le := node.Parts[1]
	call := le.Parts[0]
	for _, c := range []struct {
		node  Node
		kind  Kind
		word  string
		value int
		parts int
	}{
		{node, Connective, "and", 0, 2}, {node.Parts[0], Truth, "true", 0, 0}, {le, Atom, "le", 0, 3},
		{call, Name, "h", 0, 3}, {call.Parts[0], Name, "x", 0, 0}, {call.Parts[1], Number, "", 1, 0},
		{call.Parts[2], Name, "f", 0, 1}, {le.Parts[1], Name, "x", 0, 0}, {le.Parts[2], Bound, "", 1, 0},
	} {
		if n := c.node; n.Kind != c.kind || n.Word != c.word || n.Value != c.value || len(n.Parts) != c.parts {
			t.Errorf("%s: %+v", n.OneForm(), n)
		}
	}
}

func TestTerm(t *testing.T) {
	for text, want := range map[string]Node{
		"x":        {Kind: Name, Word: "x"},
		" -12 ":    {Kind: Number, Value: -12},
		"( f\tx )": {Kind: Name, Word: "f", Parts: []Node{{Kind: Name, Word: "x"}}},
		"(h 1 (f x) x)": {Kind: Name, Word: "h", Parts: []Node{
			{Kind: Number, Value: 1}, {Kind: Name, Word: "f", Parts: []Node{{Kind: Name, Word: "x"}}}, {Kind: Name, Word: "x"},
		}},
	} {
		if got, place, errno := Term(text, table()); !reflect.DeepEqual(got, want) || place != 0 || errno != api.OK {
			t.Errorf("Term(%q) = %+v, %d, %d", text, got, place, errno)
		}
	}
}

// What is a formula is no term, and the other way round.
func TestTermsAreNoFormulas(t *testing.T) {
	for text, errnos := range map[string][2]api.Errno{
		"x": {api.ErrForm, api.OK}, "1": {api.ErrForm, api.OK}, "(f x)": {api.ErrForm, api.OK},
		"true": {api.OK, api.ErrForm}, "(and)": {api.OK, api.ErrForm}, "(= x 1)": {api.OK, api.ErrForm},
		"": {api.ErrForm, api.ErrForm}, "y": {api.ErrForm, api.ErrName}, "(f)": {api.ErrForm, api.ErrArity}, "(= (f) x)": {api.ErrArity, api.ErrForm},
	} {
		_, _, asFormula := Formula(text, table())
		_, _, asTerm := Term(text, table())
		if got := [2]api.Errno{asFormula, asTerm}; got != errnos {
			t.Errorf("%q: %v, want %v", text, got, errnos)
		}
	}
}

func TestEmptyNodeBesideAnError(t *testing.T) {
	for _, text := range []string{"", "x", "(and true", "(= x x) true", "(= (f x x) x)", strings.Repeat(" ", 601)} {
		node, _, errno := Formula(text, table())
		if errno == api.OK || node.Kind != 0 || node.Word != "" || node.Value != 0 || node.Parts != nil {
			t.Errorf("Formula(%q) = %+v, %d", text, node, errno)
		}
	}
	for _, text := range []string{"", "true", "(f x", "x x", "(f x x)", "(h x x y)", "1001", strings.Repeat(" ", 601)} {
		node, _, errno := Term(text, table())
		if errno == api.OK || !reflect.DeepEqual(node, Node{}) {
			t.Errorf("Term(%q) = %+v, %d", text, node, errno)
		}
	}
}
