package arbiter_test

import (
	"testing"

	"arbiter/api"
	"arbiter/arbiter"
)

// arities is what the sessions of these tests have declared.
var arities = map[string]int{"x": 0, "y": 0, "abcdefgh": 0, "f": 1, "g": 2, "h": 3}

func session(t testing.TB) *arbiter.Session {
	t.Helper()
	s := arbiter.New()
	for name, arity := range arities {
		declare(t, s, name, arity, api.OK)
	}
	return s
}

func declare(t testing.TB, s *arbiter.Session, name string, arity int, want api.Errno) {
	t.Helper()
	if got := s.Declare(name, arity); got != want {
		t.Errorf("Declare(%q, %d) = %d, want %d", name, arity, got, want)
	}
}

func tidy(t testing.TB, s *arbiter.Session, text, want string) {
	t.Helper()
	if got, place, errno := s.Tidy(text); got != want || place != 0 || errno != api.OK {
		t.Errorf("Tidy(%q) = %q, %d, %d, want %q", text, got, place, errno, want)
	}
}

func refuse(t testing.TB, s *arbiter.Session, text string, place int, errno api.Errno) {
	t.Helper()
	if got, p, e := s.Tidy(text); got != "" || p != place || e != errno {
		t.Errorf("Tidy(%q) = %q, place %d, error %d, want place %d, error %d", text, got, p, e, place, errno)
	}
}

// letters names the number n: a, b, ..
func letters(n int) string {
	return "n" + string(rune('a'+n))
}
