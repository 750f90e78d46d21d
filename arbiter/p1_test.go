package arbiter_test

import (
	"math"
	"math/rand"
	"strings"
	"testing"

	"arbiter/api"
	"arbiter/arbiter"
)

// alphabet has a token of every sort that some place treats in its own way.
var alphabet = []string{"(", ")", "true", "not", "and", "=>", "=", "le", "x", "f", "g", "z", "0", "-0", "1001", "Q"}

func agree(t *testing.T, s *arbiter.Session, text string) (int, api.Errno) {
	t.Helper()
	got, place, errno := s.Tidy(text)
	want, wantPlace, wantErrno := arities.read(text)
	if got != want || place != wantPlace || errno != wantErrno {
		t.Fatalf("Tidy(%q) = %q, %d, %d, want %q, %d, %d", text, got, place, errno, want, wantPlace, wantErrno)
	}
	return place, errno
}

// P1, P5: all rows of tokens up to some length that are right but for their
// last token.
func TestP1AllRowsOfTokens(t *testing.T) {
	s := session(t)
	var grow func(prefix string, left int)
	grow = func(prefix string, left int) {
		for _, next := range alphabet {
			text := prefix + next + " "
			place, errno := agree(t, s, text)
			if left > 1 && (errno == api.OK || errno == api.ErrForm && place == len(text)) {
				grow(text, left-1)
			}
		}
	}
	grow("", 11)
}

// P1: short texts of any bytes, as a name and as a formula.
func TestP1AllShortTexts(t *testing.T) {
	s := session(t)
	for a := range 256 {
		for b := range 256 {
			text := string([]byte{byte(a), byte(b)})
			agree(t, s, text)
			agree(t, s, "(= x "+text+")")
			if !isName(text) {
				declare(t, s, text, 0, api.ErrName)
			}
		}
	}
}

// P1, P5: long texts, most of them with a token or a byte changed.
func TestP1ChangedTexts(t *testing.T) {
	s := session(t)
	r := rand.New(rand.NewSource(1))
	for range 100000 {
		text := anyFormula(r, r.Intn(8))
		if r.Intn(3) == 0 {
			text = strings.Repeat("(not ", r.Intn(31)) + text
		}
		agree(t, s, changed(r, text))
	}
}

// changed cuts a text, or has another token or byte in it, or one fewer, or
// leaves it.
func changed(r *rand.Rand, text string) string {
	switch at := r.Intn(len(text)); r.Intn(5) {
	case 0:
		return text[:at]
	case 1:
		return text[:at] + " " + alphabet[r.Intn(len(alphabet))] + " " + text[at:]
	case 2:
		return text[:at] + string([]byte{byte(r.Intn(256))}) + text[at+1:]
	case 3:
		return text[:at] + text[at+1:]
	}
	return text
}

func anyFormula(r *rand.Rand, depth int) string {
	if depth == 0 {
		return []string{"true", "false", "(and)", "(or )"}[r.Intn(4)]
	}
	a, b := anyFormula(r, depth-1), anyFormula(r, r.Intn(depth))
	switch r.Intn(9) {
	case 0:
		return "(not " + a + ")"
	case 1:
		return "(and " + a + b + "\t" + b + ")"
	case 2:
		return "( or\n" + a + ")"
	case 3:
		return "(=>" + " " + a + b + ")"
	case 4:
		return "(iff " + b + " " + a + " )"
	case 5:
		return "(le " + anyTerm(r, depth) + " " + anyTerm(r, depth) + " " + anyNumber(r) + ")"
	}
	return "(" + []string{"=", "<", "<="}[r.Intn(3)] + " " + anyTerm(r, depth) + " " + anyTerm(r, depth) + ")"
}

func anyTerm(r *rand.Rand, depth int) string {
	if depth == 0 {
		return []string{"x", "y", "abcdefgh", anyNumber(r)}[r.Intn(4)]
	}
	switch r.Intn(4) {
	case 0:
		return "(f " + anyTerm(r, depth-1) + ")"
	case 1:
		return "(g " + anyTerm(r, depth-1) + " " + anyTerm(r, 0) + ")"
	case 2:
		return "(h " + anyTerm(r, 0) + " " + anyTerm(r, depth-1) + "  " + anyTerm(r, 0) + ")"
	}
	return anyTerm(r, 0)
}

func anyNumber(r *rand.Rand) string {
	return []string{"0", "7", "-7", "1000", "-1000", "10", "1001", "-1001", "00", "-"}[r.Intn(10)]
}

// P1: with two errors at once, the first one of the promise.
func TestP1FirstErrorIsAnswered(t *testing.T) {
	s := session(t)
	declare(t, s, "le", 9, api.ErrName)
	declare(t, s, "x", 4, api.ErrArity)
	for n := range 14 {
		declare(t, s, letters(n), 0, api.OK)
	}
	declare(t, s, "Z", -1, api.ErrName)
	declare(t, s, "z", -1, api.ErrArity)
	declare(t, s, "x", 0, api.ErrThere)
	declare(t, s, "z", 0, api.ErrFull)
	refuse(t, s, "(= z"+strings.Repeat(" ", 600), 0, api.ErrLong)
	refuse(t, s, "(= z 1001", 3, api.ErrName)
	refuse(t, s, "(= 1001 z", 3, api.ErrNumber)
	refuse(t, s, "(= f 01", 3, api.ErrArity)
}

// P1: an error changes nothing.
func TestP1ErrorsChangeNothing(t *testing.T) {
	s := arbiter.New()
	for range 30 {
		declare(t, s, "le", 0, api.ErrName)
		declare(t, s, "b", 4, api.ErrArity)
		declare(t, s, "c", math.MinInt, api.ErrArity)
		declare(t, s, "d", math.MaxInt, api.ErrArity)
		refuse(t, s, "(= b c)", 3, api.ErrName)
	}
	declare(t, s, "f", 1, api.OK)
	declare(t, s, "f", 0, api.ErrThere)
	tidy(t, s, "(= (f 1) 1)", "(= (f 1) 1)")
	for n := range 19 {
		declare(t, s, letters(n), 0, api.OK)
	}
	declare(t, s, "z", 0, api.ErrFull)
	refuse(t, s, "(= z na)", 3, api.ErrName)
	tidy(t, s, "(= (f ns) na)", "(= (f ns) na)")
}

// P1: no call panics, whatever it is given: on a new session, where the
// formulas can be true, and where they cannot.
func TestP1EveryCallEnds(t *testing.T) {
	for _, text := range []string{"", "\x00", "\xff\xfe", "(", ")", "-", "x", "(f x)", strings.Repeat("(f ", 31), strings.Repeat("(", 600), strings.Repeat("(", 1000000), strings.Repeat("9", 1000000), strings.Repeat("a", 1000000)} {
		possible, impossible := session(t), session(t)
		lay(t, possible, "(< x (f x))")
		lay(t, impossible, "(< x x)")
		for _, s := range []*arbiter.Session{arbiter.New(), possible, impossible} {
			s.Value(text)
			s.Core()
			s.Declare(text, math.MinInt)
			s.Tidy(text)
			s.Assert(text)
			s.Push()
			s.Pop()
			s.Pop()
			s.Count()
			s.Check()
			s.Value(text)
			s.Core()
		}
	}
}
