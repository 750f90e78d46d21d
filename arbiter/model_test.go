package arbiter_test

import (
	"maps"
	"slices"
	"strings"

	"arbiter/api"
)

// plain is a session that keeps texts only, and counts what is written in them
// anew each time.
type plain []plainFrame

type plainFrame struct {
	names    known
	formulas []string // in their one form
}

func newPlain() *plain {
	return &plain{{names: known{}}}
}

func (p *plain) last() *plainFrame {
	return &(*p)[len(*p)-1]
}

func (p *plain) names() known {
	all := known{}
	for _, f := range *p {
		maps.Copy(all, f.names)
	}
	return all
}

func (p *plain) formulas() []string {
	var all []string
	for _, f := range *p {
		all = append(all, f.formulas...)
	}
	return all
}

func (p *plain) declare(name string, arity int) api.Errno {
	all := p.names()
	_, there := all[name]
	switch {
	case !isName(name):
		return api.ErrName
	case arity < 0 || arity > 3:
		return api.ErrArity
	case there:
		return api.ErrThere
	case len(all) == 20:
		return api.ErrFull
	}
	p.last().names[name] = arity
	return api.OK
}

func (p *plain) assert(text string) (int, api.Errno) {
	form, place, errno := p.names().read(text)
	if errno != api.OK {
		return place, errno
	}
	all := append(p.formulas(), form)
	terms, atoms := written(strings.Join(all, " "))
	switch {
	case len(all) > 20:
		return 0, api.ErrFull
	case terms > 12:
		return 0, api.ErrTerms
	case atoms > 16:
		return 0, api.ErrAtoms
	}
	p.last().formulas = append(p.last().formulas, form)
	return 0, api.OK
}

func (p *plain) push() api.Errno {
	if len(*p) == 21 {
		return api.ErrFull
	}
	*p = append(*p, plainFrame{names: known{}})
	return api.OK
}

func (p *plain) pop() api.Errno {
	if len(*p) == 1 {
		return api.ErrNone
	}
	*p = (*p)[:len(*p)-1]
	return api.OK
}

func (p *plain) count() (int, int) {
	return len(p.formulas()), len(*p) - 1
}

// written counts the different terms and atoms of formulas in their one form,
// by their pieces of the text.
func written(forms string) (int, int) {
	terms, atoms := map[string]bool{}, map[string]bool{}
	spans := tokenPattern.FindAllStringIndex(forms, -1)
	token := func(i int) string { return forms[spans[i][0]:spans[i][1]] }
	var open []int
	for i := range spans {
		switch tok := token(i); {
		case tok == "(":
			open = append(open, i)
		case tok == ")":
			first := open[len(open)-1]
			open = open[:len(open)-1]
			piece := forms[spans[first][0]:spans[i][1]]
			if slices.Contains([]string{"=", "<", "<=", "le"}, token(first+1)) {
				atoms[piece] = true
			} else if isName(token(first + 1)) {
				terms[piece] = true
			}
		case i == 0 || token(i-1) == "(":
		case isName(tok):
			terms[tok] = true
		case numberPattern.MatchString(tok):
			if token(i+1) != ")" || token(open[len(open)-1]+1) != "le" {
				terms[tok] = true
			}
		}
	}
	return len(terms), len(atoms)
}
