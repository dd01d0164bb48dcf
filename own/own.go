// Package own: packages and entries in memory of their own: layers hand them in and out, and share none of it.
package own

import (
	"slices"

	"chandler/api"
)

// Entries tells l in memory of its own.
func Entries(l []api.Entry) []api.Entry {
	l = slices.Clone(l)
	for i, x := range l {
		l[i].Pkg = Package(x.Pkg)
	}
	return l
}

// Packages tells l in memory of its own.
func Packages(l []api.Package) []api.Package {
	l = slices.Clone(l)
	for i, p := range l {
		l[i] = Package(p)
	}
	return l
}

// Package tells p with lists of its own.
func Package(p api.Package) api.Package {
	p.PreDepends = Clauses(p.PreDepends)
	p.Depends = Clauses(p.Depends)
	p.Recommends = Clauses(p.Recommends)
	p.Conflicts = slices.Clone(p.Conflicts)
	p.Breaks = slices.Clone(p.Breaks)
	p.Provides = slices.Clone(p.Provides)
	return p
}

// Clauses tells l in memory of its own.
func Clauses(l []api.Clause) []api.Clause {
	l = slices.Clone(l)
	for i, c := range l {
		l[i] = slices.Clone(c)
	}
	return l
}
