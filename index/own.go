package index

import (
	"slices"

	"chandler/api"
)

// ownPackages tells l in memory of its own.
func ownPackages(l []api.Package) []api.Package {
	l = slices.Clone(l)
	for i, p := range l {
		l[i] = ownPackage(p)
	}
	return l
}

// ownPackage tells p with lists of its own.
func ownPackage(p api.Package) api.Package {
	p.PreDepends = ownClauses(p.PreDepends)
	p.Depends = ownClauses(p.Depends)
	p.Recommends = ownClauses(p.Recommends)
	p.Conflicts = slices.Clone(p.Conflicts)
	p.Breaks = slices.Clone(p.Breaks)
	p.Provides = slices.Clone(p.Provides)
	return p
}

// ownClauses tells l in memory of its own.
func ownClauses(l []api.Clause) []api.Clause {
	l = slices.Clone(l)
	for i, c := range l {
		l[i] = slices.Clone(c)
	}
	return l
}
