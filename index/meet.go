package index

import (
	"slices"

	"chandler/api"
	"chandler/relation"
	"chandler/version"
)

// Satisfies tells whether p meets a, by itself or by what it provides.
func Satisfies(p api.Package, a api.Atom) bool {
	if !relation.MayAtom(a) {
		return false
	}
	if p.Name == a.Name && version.Holds(a.Rel, p.Version, a.Version) {
		return true
	}
	return slices.ContainsFunc(p.Provides, func(provided api.Provide) bool { return provides(provided, a) })
}

// Clash tells whether p and q may not be there together.
func Clash(p, q api.Package) bool {
	return p.Name != q.Name && (isAgainst(p, q) || isAgainst(q, p))
}

// provides tells whether that meets an atom that may be.
func provides(provided api.Provide, a api.Atom) bool {
	if provided.Name != a.Name {
		return false
	}
	// One without a version stands for no version: it meets only what asks for none.
	return a.Rel == api.RAny || version.Holds(a.Rel, provided.Version, a.Version)
}

// isAgainst tells whether p says that it may not be there with q.
func isAgainst(p, q api.Package) bool {
	isMet := func(a api.Atom) bool { return Satisfies(q, a) }
	return slices.ContainsFunc(p.Conflicts, isMet) || slices.ContainsFunc(p.Breaks, isMet)
}
