package arbiter_test

import (
	"regexp"
	"slices"
	"strconv"
	"strings"

	"arbiter/api"
)

// A second reader, made in another way than the program's: a stack of what is
// still wanted, and patterns for the words.

type want int

const (
	formula    want = iota
	formulas        // any number of formulas, and the bracket
	head            // what stands behind ( of a formula
	term            // a term
	argument        // a term of a name
	function        // what stands behind ( of a term
	bound           // the number of a le
	closing         // the bracket of a formula
	closeTerms      // the bracket of a term
)

var (
	tokenPattern  = regexp.MustCompile(`[()]|[^() \t\n]+`)
	namePattern   = regexp.MustCompile(`^[a-z]{1,8}$`)
	numberPattern = regexp.MustCompile(`^(0|-?[1-9][0-9]*)$`)
	reserved      = []string{"true", "false", "not", "and", "or", "iff", "le"}
	behind        = map[string][]want{
		"not": {formula, closing}, "and": {formulas}, "or": {formulas},
		"=>": {formula, formula, closing}, "iff": {formula, formula, closing},
		"=": {term, term, closing}, "<": {term, term, closing}, "<=": {term, term, closing},
		"le": {term, term, bound, closing},
	}
)

// known is names and their arities.
type known map[string]int

// read answers as Tidy should in a session that has these names.
func (k known) read(text string) (string, int, api.Errno) {
	return k.readAs(formula, text)
}

// readAs reads a text as a whole of that sort.
func (k known) readAs(whole want, text string) (string, int, api.Errno) {
	if len(text) > 600 {
		return "", 0, api.ErrLong
	}
	stack := []want{whole}
	depth := 0
	var seen []string
	for _, span := range tokenPattern.FindAllStringIndex(text, -1) {
		tok := text[span[0]:span[1]]
		if len(stack) == 0 {
			return "", span[0], api.ErrForm
		}
		top := stack[len(stack)-1]
		more, errno := k.step(top, tok, depth)
		if errno != api.OK {
			return "", span[0], errno
		}
		stack = stack[:len(stack)-1]
		for _, w := range slices.Backward(more) {
			stack = append(stack, w)
		}
		switch tok {
		case "(":
			depth++
		case ")":
			depth--
		}
		seen = append(seen, tok)
	}
	if len(stack) > 0 {
		return "", len(text), api.ErrForm
	}
	return strings.NewReplacer("( ", "(", " )", ")").Replace(strings.Join(seen, " ")), 0, api.OK
}

// step gives what is wanted instead of top, once tok has been read.
func (k known) step(top want, tok string, depth int) ([]want, api.Errno) {
	switch top {
	case closing:
		return nil, unless(tok == ")", api.ErrForm)
	case closeTerms:
		return nil, unless(tok == ")", api.ErrArity)
	case formulas:
		if tok == ")" {
			return nil, api.OK
		}
		more, errno := k.step(formula, tok, depth)
		return append(more, formulas), errno
	case formula:
		if tok == "(" {
			return []want{head}, unless(depth < 30, api.ErrDeep)
		}
		return nil, unless(tok == "true" || tok == "false", api.ErrForm)
	case head:
		more, ok := behind[tok]
		return more, unless(ok, api.ErrForm)
	case function:
		return k.stepFunction(tok)
	case bound:
		return nil, stepNumber(tok)
	case argument:
		if tok == ")" {
			return nil, api.ErrArity
		}
	}
	return k.stepTerm(tok, depth)
}

func (k known) stepTerm(tok string, depth int) ([]want, api.Errno) {
	if tok == "(" {
		return []want{function}, unless(depth < 30, api.ErrDeep)
	}
	if !isName(tok) {
		return nil, stepNumber(tok)
	}
	arity, ok := k[tok]
	if !ok {
		return nil, api.ErrName
	}
	return nil, unless(arity == 0, api.ErrArity)
}

func (k known) stepFunction(tok string) ([]want, api.Errno) {
	if !isName(tok) {
		return nil, api.ErrForm
	}
	arity, ok := k[tok]
	if !ok {
		return nil, api.ErrName
	}
	return append(slices.Repeat([]want{argument}, arity), closeTerms), unless(arity > 0, api.ErrArity)
}

func stepNumber(tok string) api.Errno {
	if !numberPattern.MatchString(tok) {
		return api.ErrForm
	}
	n, err := strconv.Atoi(tok)
	return unless(err == nil && -1000 <= n && n <= 1000, api.ErrNumber)
}

func isName(tok string) bool {
	return namePattern.MatchString(tok) && !slices.Contains(reserved, tok)
}

func unless(fine bool, errno api.Errno) api.Errno {
	if fine {
		return api.OK
	}
	return errno
}
