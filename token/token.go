// Package token splits a text into brackets and words.
package token

// Kind is what sort of token it is.
type Kind int

const (
	End Kind = iota // behind the last one of the text
	Open
	Close
	Word
)

// Token is a piece of a text, and where it begins there.
type Token struct {
	Kind  Kind
	Place int
	Text  string
}

// Split gives the tokens of a text and an End behind them, so that a reader
// that looks at the next token always finds one.
func Split(text string) []Token {
	var tokens []Token
	for place := 0; place < len(text); {
		if isBlank(text[place]) {
			place++
			continue
		}
		next := at(text, place)
		tokens = append(tokens, next)
		place += len(next.Text)
	}
	return append(tokens, Token{Kind: End, Place: len(text)})
}

func at(text string, place int) Token {
	switch text[place] {
	case '(':
		return Token{Open, place, text[place : place+1]}
	case ')':
		return Token{Close, place, text[place : place+1]}
	}
	end := place
	for end < len(text) && !isBlank(text[end]) && !isBracket(text[end]) {
		end++
	}
	return Token{Word, place, text[place:end]}
}

// The document names three blanks and no more: byte 13, for one, is a part of
// a word.
func isBlank(b byte) bool {
	return b == ' ' || b == '\t' || b == '\n'
}

func isBracket(b byte) bool {
	return b == '(' || b == ')'
}
