package token

import (
	"slices"
	"testing"
)

func TestSplit(t *testing.T) {
	for _, c := range []struct {
		text string
		want []Token
	}{
		{"", []Token{{End, 0, ""}}},
		{" \t\n", []Token{{End, 3, ""}}},
		{"(", []Token{{Open, 0, "("}, {End, 1, ""}}},
		{"a", []Token{{Word, 0, "a"}, {End, 1, ""}}},
		{")(", []Token{{Close, 0, ")"}, {Open, 1, "("}, {End, 2, ""}}},
		{" (=x\ty)\n", []Token{{Open, 1, "("}, {Word, 2, "=x"}, {Word, 5, "y"}, {Close, 6, ")"}, {End, 8, ""}}},
		{"a(b)c", []Token{{Word, 0, "a"}, {Open, 1, "("}, {Word, 2, "b"}, {Close, 3, ")"}, {Word, 4, "c"}, {End, 5, ""}}},
		{"é\xff\x00 b", []Token{{Word, 0, "é\xff\x00"}, {Word, 5, "b"}, {End, 6, ""}}},
	} {
		if got := Split(c.text); !slices.Equal(got, c.want) {
			t.Errorf("Split(%q) = %v, want %v", c.text, got, c.want)
		}
	}
}

// Only the bytes 32, 9, 10, and brackets end a word.
func TestEveryByteBetweenWords(t *testing.T) {
	for b := range 256 {
		text := "a" + string([]byte{byte(b)}) + "b"
		want := 2
		switch b {
		case 9, 10, 32:
			want = 3
		case '(', ')':
			want = 4
		}
		if got := len(Split(text)); got != want {
			t.Errorf("Split(%q): %d tokens, want %d", text, got, want)
		}
	}
}
