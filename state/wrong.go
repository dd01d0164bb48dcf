package state

import (
	"slices"

	"chandler/api"
	"chandler/index"
	"chandler/record"
)

// Healthy tells whether l is a whole each of whose packages has what it asks for, and is against none of the others.
func Healthy(l []api.Package) bool {
	// What a whole needs to be healthy is just what its packages need once all of them are configured.
	return isWhole(l) && len(Wrong(configured(l))) == 0
}

// Wrong tells what is wrong with l, entry by entry.
func Wrong(l []api.Entry) []api.Violation {
	var wrong []api.Violation
	for place := range l {
		wrong = append(wrong, wrongAt(l, place)...)
	}
	return wrong
}

// Within tells whether each of a is one of b.
func Within(a, b []api.Violation) bool {
	for _, v := range a {
		if !slices.Contains(b, v) {
			return false
		}
	}
	return true
}

// wrongAt tells what is wrong with the entry of l at that place.
func wrongAt(l []api.Entry, place int) []api.Violation {
	x := l[place]
	wrong := unmet(l, x.Pkg.PreDepends, api.Violation{Kind: api.VDepends, Name: x.Pkg.Name, Pre: true})
	// What is only unpacked may wait for what it depends on.
	if x.Configured {
		wrong = append(wrong, unmet(l, x.Pkg.Depends, api.Violation{Kind: api.VDepends, Name: x.Pkg.Name})...)
	}
	wrong = append(wrong, clashes(l, place, x.Pkg.Conflicts, api.VConflicts)...)
	return append(wrong, clashes(l, place, x.Pkg.Breaks, api.VBreaks)...)
}

// unmet tells, of each of these clauses that no configured one of l meets, v with its place.
func unmet(l []api.Entry, clauses []api.Clause, v api.Violation) []api.Violation {
	var wrong []api.Violation
	for i, c := range clauses {
		if !isMet(l, c) {
			v.I = i
			wrong = append(wrong, v)
		}
	}
	return wrong
}

// clashes tells what else of l meets these atoms, against which the entry at that place is, by a field of that kind.
func clashes(l []api.Entry, place int, atoms []api.Atom, kind int) []api.Violation {
	var wrong []api.Violation
	for i, a := range atoms {
		for other, y := range l {
			// What is only unpacked can't be broken yet.
			if other == place || kind == api.VBreaks && !y.Configured {
				continue
			}
			if index.Satisfies(y.Pkg, a) {
				wrong = append(wrong, api.Violation{Kind: kind, Name: l[place].Pkg.Name, I: i, Other: y.Pkg.Name})
			}
		}
	}
	return wrong
}

// isMet tells whether a configured one of l meets c.
func isMet(l []api.Entry, c api.Clause) bool {
	for _, x := range l {
		if x.Configured && meets(x.Pkg, c) {
			return true
		}
	}
	return false
}

// meets tells whether p meets an atom of c.
func meets(p api.Package, c api.Clause) bool {
	return slices.ContainsFunc(c, func(a api.Atom) bool { return index.Satisfies(p, a) })
}

// isWhole tells whether each of l may be, and each name stands once.
func isWhole(l []api.Package) bool {
	var names []string
	for _, p := range l {
		if record.May(p) != api.OK {
			return false
		}
		names = append(names, p.Name)
	}
	slices.Sort(names)
	return len(slices.Compact(names)) == len(l)
}
