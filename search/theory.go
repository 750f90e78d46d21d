package search

import "arbiter/marks"

// Theory is what the search asks whether answers to questions can stand
// together. The first questions are whether the atoms are true.
type Theory interface {
	// Assume takes an answer for given and tells whether it can stand beside
	// those assumed ahead of it. It counts as assumed even if it cannot.
	Assume(question int, yes bool) bool
	// Back takes assumptions back but for the first ones, as many as count says.
	Back(count int)
}

// Explainer is a theory that can tell what is wrong.
type Explainer interface {
	// Explain gives, behind an Assume that answered false, assumptions that
	// cannot stand together, by their numbers in the order in which they came.
	Explain() marks.Set
}

// Modeler is a theory that can give a model.
type Modeler interface {
	// Model gives, where all that is assumed stands and nothing more is asked, a
	// number for each term, with which all of it is true.
	Model() []int
}

// Splitter is a theory that cannot always tell from the answers about atoms
// whether they can stand together.
type Splitter interface {
	// Split gives a question that it must have answered too, if there is any. It
	// is not one that was assumed.
	Split() (int, bool)
}
