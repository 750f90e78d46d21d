package arbiter_test

import (
	"strings"
	"testing"

	"arbiter/api"
	"arbiter/arbiter"
)

// arities is what the sessions of these tests have declared.
var arities = known{"x": 0, "y": 0, "abcdefgh": 0, "f": 1, "g": 2, "h": 3}

func session(t testing.TB) *arbiter.Session {
	t.Helper()
	s := arbiter.New()
	for name, arity := range arities {
		declare(t, s, name, arity, api.OK)
	}
	return s
}

func declare(t testing.TB, s *arbiter.Session, name string, arity int, want api.Errno) {
	t.Helper()
	if got := s.Declare(name, arity); got != want {
		t.Errorf("Declare(%q, %d) = %d, want %d", name, arity, got, want)
	}
}

func tidy(t testing.TB, s *arbiter.Session, text, want string) {
	t.Helper()
	if got, place, errno := s.Tidy(text); got != want || place != 0 || errno != api.OK {
		t.Errorf("Tidy(%q) = %q, %d, %d, want %q", text, got, place, errno, want)
	}
}

func refuse(t testing.TB, s *arbiter.Session, text string, place int, errno api.Errno) {
	t.Helper()
	if got, p, e := s.Tidy(text); got != "" || p != place || e != errno {
		t.Errorf("Tidy(%q) = %q, place %d, error %d, want place %d, error %d", text, got, p, e, place, errno)
	}
}

// lay asserts formulas that can be laid down.
func lay(t testing.TB, s *arbiter.Session, texts ...string) {
	t.Helper()
	for _, text := range texts {
		assert(t, s, text, 0, api.OK)
	}
}

func assert(t testing.TB, s *arbiter.Session, text string, place int, errno api.Errno) {
	t.Helper()
	if p, e := s.Assert(text); p != place || e != errno {
		t.Errorf("Assert(%q) = %d, %d, want %d, %d", text, p, e, place, errno)
	}
}

func push(t testing.TB, s *arbiter.Session, want api.Errno) {
	t.Helper()
	if got := s.Push(); got != want {
		t.Errorf("Push() = %d, want %d", got, want)
	}
}

func pop(t testing.TB, s *arbiter.Session, want api.Errno) {
	t.Helper()
	if got := s.Pop(); got != want {
		t.Errorf("Pop() = %d, want %d", got, want)
	}
}

func count(t testing.TB, s *arbiter.Session, formulas, frames int) {
	t.Helper()
	if a, b := s.Count(); a != formulas || b != frames {
		t.Errorf("Count() = %d, %d, want %d, %d", a, b, formulas, frames)
	}
}

func check(t testing.TB, s *arbiter.Session, want bool) {
	t.Helper()
	if got := s.Check(); got != want {
		t.Errorf("Check() = %t", got)
	}
}

// value asks for a term that has one.
func value(t testing.TB, s *arbiter.Session, term string) int {
	t.Helper()
	n, place, errno := s.Value(term)
	if place != 0 || errno != api.OK {
		t.Errorf("Value(%q) = %d, %d, %d", term, n, place, errno)
	}
	return n
}

func noValue(t testing.TB, s *arbiter.Session, term string, place int, errno api.Errno) {
	t.Helper()
	if n, p, e := s.Value(term); n != 0 || p != place || e != errno {
		t.Errorf("Value(%q) = %d, place %d, error %d, want place %d, error %d", term, n, p, e, place, errno)
	}
}

// core asks for formulas to blame where there are some.
func core(t testing.TB, s *arbiter.Session) []int {
	t.Helper()
	numbers, errno := s.Core()
	if errno != api.OK {
		t.Errorf("Core() = %v, %d", numbers, errno)
	}
	return numbers
}

func noCore(t testing.TB, s *arbiter.Session) {
	t.Helper()
	if numbers, errno := s.Core(); len(numbers) != 0 || errno != api.ErrAnswer {
		t.Errorf("Core() = %v, %d, want error %d", numbers, errno, api.ErrAnswer)
	}
}

// checkRows has rows of formulas with ; between: a session for each.
func checkRows(t *testing.T, rows map[string]bool) {
	t.Helper()
	for row, want := range rows {
		s := session(t)
		lay(t, s, strings.Split(row, ";")...)
		if got := s.Check(); got != want {
			t.Errorf("Check() of %s = %t", row, got)
		}
	}
}

// letters names the number n: a, b, ..
func letters(n int) string {
	return "n" + string(rune('a'+n))
}
