package worlds

import (
	"arbiter/pool"
	"arbiter/syntax"
)

// Of is the set of the worlds in which a formula is true.
func Of(f pool.Formula, atoms int) Set {
	switch f.Kind {
	case syntax.Atom:
		return Where(atoms, f.Atom, true)
	case syntax.Truth:
		if f.Word == "true" {
			return All(atoms)
		}
		return None(atoms)
	}
	return connected(f, atoms)
}

func connected(f pool.Formula, atoms int) Set {
	part := func(n int) Set { return Of(f.Parts[n], atoms) }
	switch f.Word {
	case "not":
		return part(0).Not()
	case "=>":
		return part(0).Not().Or(part(1))
	case "iff":
		one, other := part(0), part(1)
		return one.And(other).Or(one.Or(other).Not())
	case "or":
		some := None(atoms)
		for n := range f.Parts {
			some = some.Or(part(n))
		}
		return some
	}
	return OfAll(f.Parts, atoms)
}

// OfAll is the set of the worlds in which all formulas are true.
func OfAll(formulas []pool.Formula, atoms int) Set {
	all := All(atoms)
	for _, f := range formulas {
		all = all.And(Of(f, atoms))
	}
	return all
}
