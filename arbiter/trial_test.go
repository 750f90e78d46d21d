package arbiter_test

import (
	"slices"
	"strconv"
)

// bracket is a text as it is bracketed: a word, or a bracket of parts.
type bracket struct {
	text  string // in its one form
	word  string // none, if it is a bracket
	parts []bracket
}

// brackets reads a text that is right.
func brackets(text string) bracket {
	tokens := tokenPattern.FindAllString(text, -1)
	var read func() bracket
	read = func() bracket {
		word := tokens[0]
		tokens = tokens[1:]
		if word != "(" {
			return bracket{text: word, word: word}
		}
		var made bracket
		for tokens[0] != ")" {
			part := read()
			made.parts = append(made.parts, part)
			made.text += " " + part.text
		}
		tokens = tokens[1:]
		made.text = "(" + made.text[1:] + ")"
		return made
	}
	return read()
}

// trial finds by trial whether formulas can be true: it gives each term all
// numbers of a range.
type trial struct {
	terms   []string // each one behind those within it
	ranges  [][2]int
	numbers []int
	tests   [][]func() bool // what must be true when so many terms have a number
}

// canBe tells whether formulas can all be true. No number in them is beyond
// most, either way: then there is a model in which no two neighbours, of the
// numbers that come up and 0, are more than most+1 apart.
func canBe(texts []string, most int) bool {
	t := &trial{numbers: make([]int, 12), tests: make([][]func() bool, 13)}
	for _, text := range texts {
		test := t.truth(brackets(text))
		t.tests[len(t.terms)] = append(t.tests[len(t.terms)], test)
	}
	unknown := slices.DeleteFunc(slices.Clone(t.terms), isNumber)
	far := most + len(unknown)*(most+1)
	for _, term := range t.terms {
		one := [2]int{-far, far}
		if n, err := strconv.Atoi(term); err == nil {
			one = [2]int{n, n}
		}
		t.ranges = append(t.ranges, one)
	}
	if len(unknown) == len(t.terms) && len(t.terms) > 0 {
		t.ranges[0] = [2]int{0, 0} // without a number in them, all can be moved
	}
	return t.try(0)
}

func isNumber(term string) bool {
	return numberPattern.MatchString(term)
}

func (t *trial) try(count int) bool {
	for _, test := range t.tests[count] {
		if !test() {
			return false
		}
	}
	if count == len(t.terms) {
		return true
	}
	for n := t.ranges[count][0]; n <= t.ranges[count][1]; n++ {
		t.numbers[count] = n
		if t.try(count + 1) {
			return true
		}
	}
	return false
}

// term gives the place of a term's number.
func (t *trial) term(b bracket) *int {
	if at := slices.Index(t.terms, b.text); at >= 0 {
		return &t.numbers[at]
	}
	var arguments []*int
	if b.word == "" {
		for _, part := range b.parts[1:] {
			arguments = append(arguments, t.term(part))
		}
	}
	t.terms = append(t.terms, b.text)
	result := &t.numbers[len(t.terms)-1]
	for _, other := range t.terms {
		if call := brackets(other); b.word == "" && call.word == "" && call.text != b.text && call.parts[0].text == b.parts[0].text {
			t.tests[len(t.terms)] = append(t.tests[len(t.terms)], t.function(arguments, result, call))
		}
	}
	return result
}

// function tells whether a function makes the same of the same arguments.
func (t *trial) function(arguments []*int, result *int, call bracket) func() bool {
	otherResult := t.term(call)
	var others []*int
	for _, part := range call.parts[1:] {
		others = append(others, t.term(part))
	}
	return func() bool {
		for n := range arguments {
			if *arguments[n] != *others[n] {
				return true
			}
		}
		return *result == *otherResult
	}
}

// truth tells whether a formula is true with the numbers that the terms have.
func (t *trial) truth(b bracket) func() bool {
	if b.word != "" {
		return func() bool { return b.word == "true" }
	}
	head, parts := b.parts[0].word, b.parts[1:]
	if slices.Contains([]string{"=", "<", "<=", "le"}, head) {
		return compare(head, t.term(parts[0]), t.term(parts[1]), parts[2:])
	}
	var truths []func() bool
	for _, part := range parts {
		truths = append(truths, t.truth(part))
	}
	return connect(head, truths)
}

func compare(relation string, one, other *int, bound []bracket) func() bool {
	switch relation {
	case "=":
		return func() bool { return *one == *other }
	case "<":
		return func() bool { return *one < *other }
	case "<=":
		return func() bool { return *one <= *other }
	}
	by, _ := strconv.Atoi(bound[0].word)
	return func() bool { return *one-*other <= by }
}

func connect(word string, truths []func() bool) func() bool {
	switch word {
	case "not":
		return func() bool { return !truths[0]() }
	case "=>":
		return func() bool { return !truths[0]() || truths[1]() }
	case "iff":
		return func() bool { return truths[0]() == truths[1]() }
	}
	return func() bool {
		for _, truth := range truths {
			if truth() != (word == "and") {
				return word == "or"
			}
		}
		return word == "and"
	}
}

// drawn is a trial in which the terms have certain numbers from the start, the
// same of the same.
func drawn(terms []string, draw func() int) *trial {
	t := &trial{numbers: make([]int, 12), tests: make([][]func() bool, 13)}
	for _, text := range terms {
		t.term(brackets(text))
	}
	for count, text := range t.terms {
		if n, err := strconv.Atoi(text); err == nil {
			t.numbers[count] = n
			continue
		}
		t.numbers[count] = draw()
		for slices.ContainsFunc(t.tests[count+1], func(test func() bool) bool { return !test() }) {
			t.numbers[count] = draw()
		}
	}
	return t
}
