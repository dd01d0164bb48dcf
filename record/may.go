package record

import (
	"cmp"
	"slices"

	"chandler/api"
	"chandler/relation"
	"chandler/text"
	"chandler/version"
)

// May tells why p may not be a package.
func May(p api.Package) api.Errno {
	if !text.Name(p.Name) || !isVersion(p.Version) {
		return api.ErrForm
	}
	return cmp.Or(
		mayClauses(p.PreDepends),
		mayClauses(p.Depends),
		mayClauses(p.Recommends),
		mayItems(p.Conflicts, relation.MayAtom),
		mayItems(p.Breaks, relation.MayAtom),
		mayItems(p.Provides, isProvide),
	)
}

// MayAll tells why l may not be packages.
func MayAll(l []api.Package) api.Errno {
	if len(l) > api.MaxPackages {
		return api.ErrMany
	}
	for _, p := range l {
		if e := May(p); e != api.OK {
			return e
		}
	}
	for i, p := range l {
		if slices.ContainsFunc(l[:i], func(q api.Package) bool { return isAgain(p, q) }) {
			return api.ErrTwice
		}
	}
	if countNames(l) > api.MaxNames {
		return api.ErrMany
	}
	return api.OK
}

// MayEntries tells why l may not be entries.
func MayEntries(l []api.Entry) api.Errno {
	if len(l) > api.MaxNames {
		return api.ErrMany
	}
	for _, x := range l {
		if e := May(x.Pkg); e != api.OK {
			return e
		}
	}
	for i := range l {
		if i > 0 && l[i-1].Pkg.Name >= l[i].Pkg.Name {
			return api.ErrTwice
		}
	}
	return api.OK
}

// mayClauses tells why l may not be the clauses of a field.
func mayClauses(l []api.Clause) api.Errno {
	// All of the field is asked for this error ahead of any other of its errors.
	if slices.ContainsFunc(l, func(c api.Clause) bool { return len(c) > api.MaxAtoms }) {
		return api.ErrMany
	}
	return mayItems(l, isClause)
}

// mayItems tells why l may not be the items of a field, each of which may be only where right says so.
func mayItems[T any](l []T, right func(T) bool) api.Errno {
	if len(l) > api.MaxClauses {
		return api.ErrMany
	}
	for _, x := range l {
		if !right(x) {
			return api.ErrForm
		}
	}
	return api.OK
}

// isClause tells whether c has atoms that may be, and no others.
func isClause(c api.Clause) bool {
	for _, a := range c {
		if !relation.MayAtom(a) {
			return false
		}
	}
	return len(c) > 0
}

// isProvide tells whether the atom that asks for just what p is may be.
func isProvide(p api.Provide) bool {
	a := api.Atom{Name: p.Name, Version: p.Version}
	if p.Version != "" {
		a.Rel = api.REq
	}
	return relation.MayAtom(a)
}

func isVersion(s string) bool {
	_, _, _, e := version.Parse(s)
	return e == api.OK
}

// isAgain tells whether p and q are one version of one package, however it is written.
func isAgain(p, q api.Package) bool {
	return p.Name == q.Name && version.Same(p.Version, q.Version)
}

// countNames tells how many names packages have.
func countNames(l []api.Package) int {
	var names []string
	for _, p := range l {
		if !slices.Contains(names, p.Name) {
			names = append(names, p.Name)
		}
	}
	return len(names)
}
