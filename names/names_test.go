package names

import (
	"testing"

	"arbiter/api"
)

func TestIs(t *testing.T) {
	for _, word := range []string{"a", "z", "abcdefgh", "zzzzzzzz", "let", "truer", "no", "ifff", "l", "x"} {
		if !Is(word) {
			t.Errorf("Is(%q) is false", word)
		}
	}
	for _, word := range []string{"", "abcdefghi", "A", "aB", "a1", "1", "a-b", "a b", " a", "a ", "a\n", "é", "\xff", "a\x00", "true", "false", "not", "and", "or", "iff", "le", "=", "<", "<=", "=>", "(", ")"} {
		if Is(word) {
			t.Errorf("Is(%q) is true", word)
		}
	}
}

func TestEveryByteAsName(t *testing.T) {
	for b := range 256 {
		if word := string([]byte{byte(b)}); Is(word) != (b >= 'a' && b <= 'z') {
			t.Errorf("Is(%q) = %t", word, Is(word))
		}
	}
}

func TestFind(t *testing.T) {
	var table Table
	if f, ok := table.Find("x"); ok || f != (Function{}) {
		t.Errorf("Find in an empty table = %v, %t", f, ok)
	}
	table.Declare("x", 0)
	table.Declare("f", 3)
	if f, ok := table.Find("f"); !ok || f != (Function{"f", 3}) {
		t.Errorf("Find = %v, %t", f, ok)
	}
	if _, ok := table.Find("ff"); ok {
		t.Error("Find gave a name that nobody declared")
	}
}

func TestRefusedNamesAreNotKept(t *testing.T) {
	var table Table
	for _, c := range []struct {
		name  string
		arity int
		want  api.Errno
	}{{"le", 0, api.ErrName}, {"A", 0, api.ErrName}, {"a", 4, api.ErrArity}, {"b", -1, api.ErrArity}} {
		if got := table.Declare(c.name, c.arity); got != c.want {
			t.Errorf("Declare(%q, %d) = %d, want %d", c.name, c.arity, got, c.want)
		}
		if _, ok := table.Find(c.name); ok {
			t.Errorf("%q is there, though it was refused", c.name)
		}
	}
}

func TestCut(t *testing.T) {
	var table Table
	for _, name := range []string{"a", "b", "c"} {
		table.Declare(name, 1)
	}
	table.Cut(3)
	if table.Count() != 3 {
		t.Errorf("Count = %d", table.Count())
	}
	table.Cut(1)
	if _, ok := table.Find("a"); !ok || table.Count() != 1 {
		t.Errorf("Count = %d, and a is there: %t", table.Count(), ok)
	}
	if _, ok := table.Find("b"); ok {
		t.Error("b is there still")
	}
	if errno := table.Declare("b", 2); errno != api.OK {
		t.Errorf("Declare = %d", errno)
	}
	if f, _ := table.Find("b"); f != (Function{"b", 2}) {
		t.Errorf("b is %v", f)
	}
}
