package index

import (
	"slices"
	"testing"

	"chandler/api"
	"chandler/version"
)

// picks is a row of numbers that goes every which way, but always the same one.
type picks uint32

// pick tells the next number, at least 0 and below n.
func (p *picks) pick(n int) int {
	*p = *p*1664525 + 1013904223
	return int(*p>>8) % n
}

// one tells one of l.
func one[T any](p *picks, l []T) T {
	return l[p.pick(len(l))]
}

// anyName tells one of few names.
func (p *picks) anyName() string {
	return one(p, []string{"aa", "aa+", "bb", "cc", "vv"})
}

// anyVersion tells one of few versions, of which some are the same.
func (p *picks) anyVersion() string {
	return one(p, []string{"1~", "1", "01", "1-0", "1-1", "2", "10", "1:0"})
}

// anyAtom tells an atom, which mostly may be.
func (p *picks) anyAtom() api.Atom {
	a := api.Atom{Name: p.anyName(), Rel: p.pick(api.RGt+2) - 1}
	if a.Rel != api.RAny || p.pick(20) == 0 {
		a.Version = p.anyVersion()
	}
	return a
}

// anyGoodAtom tells an atom that may be.
func (p *picks) anyGoodAtom() api.Atom {
	a := api.Atom{Name: p.anyName(), Rel: p.pick(api.RGt + 1)}
	if a.Rel != api.RAny {
		a.Version = p.anyVersion()
	}
	return a
}

// anyPackage tells a package that may be.
func (p *picks) anyPackage() api.Package {
	x := api.Package{Name: p.anyName(), Version: p.anyVersion()}
	for range p.pick(4) {
		provided := api.Provide{Name: p.anyName()}
		if p.pick(2) > 0 {
			provided.Version = p.anyVersion()
		}
		x.Provides = append(x.Provides, provided)
	}
	for range p.pick(3) {
		x.Conflicts = append(x.Conflicts, p.anyGoodAtom())
	}
	for range p.pick(3) {
		x.Breaks = append(x.Breaks, p.anyGoodAtom())
	}
	return x
}

// anyPackages tells packages that may be.
func (p *picks) anyPackages() []api.Package {
	var l []api.Package
	for range p.pick(10) {
		x := p.anyPackage()
		if !slices.ContainsFunc(l, func(y api.Package) bool { return y.Name == x.Name && version.Same(y.Version, x.Version) }) {
			l = append(l, x)
		}
	}
	return l
}

// shuffle brings l into another order.
func shuffle[T any](p *picks, l []T) {
	for i := range l {
		j := p.pick(i + 1)
		l[i], l[j] = l[j], l[i]
	}
}

// stands tells whether a version that is one stands as the atom, which may be, asks for: by the document's words.
func stands(v string, a api.Atom) bool {
	order := version.Compare(v, a.Version)
	return a.Rel == api.RAny || a.Rel == api.RLt && order < 0 || a.Rel == api.RLe && order <= 0 || a.Rel == api.REq && order == 0 || a.Rel == api.RGe && order >= 0 || a.Rel == api.RGt && order > 0
}

// meets tells whether a package that may be meets an atom of a name and, if at all, of a version that may be: by the document's words.
func meets(p api.Package, a api.Atom) bool {
	if a.Rel < api.RAny || a.Rel > api.RGt || (a.Rel == api.RAny) != (a.Version == "") {
		return false
	}
	met := p.Name == a.Name && stands(p.Version, a)
	for _, provided := range p.Provides {
		if provided.Name == a.Name && (a.Rel == api.RAny || provided.Version != "" && stands(provided.Version, a)) {
			met = true
		}
	}
	return met
}

// clash tells whether packages that may be clash: by the document's words.
func clash(p, q api.Package) bool {
	met := false
	for _, a := range slices.Concat(p.Conflicts, p.Breaks) {
		met = met || meets(q, a)
	}
	for _, a := range slices.Concat(q.Conflicts, q.Breaks) {
		met = met || meets(p, a)
	}
	return met && p.Name != q.Name
}

// P10.1: Satisfies and Clash are as the document's words say, of many packages and atoms.
func TestAsWords(t *testing.T) {
	p := picks(101)
	count := map[string]int{}
	for range 20000 {
		x, y, a := p.anyPackage(), p.anyPackage(), p.anyAtom()
		wantSatisfies(t, x, a, meets(x, a))
		wantClash(t, x, y, clash(x, y))
		if meets(x, a) {
			count["met"]++
		}
		if clash(x, y) {
			count["clash"]++
		}
	}
	if count["met"] < 2000 || count["clash"] < 2000 {
		t.Errorf("only %v", count)
	}
}

// P10.2, P10.3: in which order packages are handed in makes no difference; places rise, and are of just those that they should be.
func TestAnyOrder(t *testing.T) {
	p := picks(102)
	for range 500 {
		l := p.anyPackages()
		x := build(t, l...)
		shuffle(&p, l)
		y := build(t, l...)
		wantIndex(t, y, all(t, x)...)
		wantAnswers(t, y, l)
		for range 20 {
			a := p.anyAtom()
			wantMeets(t, y, a, x.Meets(a)...)
		}
	}
}

// wantAnswers fails, if the index x is not one of the packages l: each name once, each package at one place, the places in their order.
func wantAnswers(t *testing.T, x *Index, l []api.Package) {
	t.Helper()
	names := x.Names()
	if !slices.IsSorted(names) || len(slices.Compact(slices.Clone(names))) != len(names) {
		t.Errorf("names %q", names)
	}
	var places []int
	for _, name := range names {
		places = append(places, x.Of(name)...)
	}
	if !slices.IsSorted(places) || len(places) != len(l) || x.Len() != len(l) {
		t.Errorf("places %v of %d", places, len(l))
	}
	for _, p := range l {
		place, ok := x.Find(p.Name, p.Version)
		if q, _ := x.At(place); !ok || show(q) != show(p) || !slices.Contains(x.Of(p.Name), place) {
			t.Errorf("Find(%q, %q) = %d, %t", p.Name, p.Version, place, ok)
		}
	}
	for place := range x.Len() - 1 {
		p, _ := x.At(place)
		q, _ := x.At(place + 1)
		if p.Name > q.Name || p.Name == q.Name && version.Compare(p.Version, q.Version) <= 0 {
			t.Errorf("%s %s stands ahead of %s %s", p.Name, p.Version, q.Name, q.Version)
		}
	}
}

// P10.2: what meets an atom is just what Satisfies it, rising.
func TestMeetsAsSatisfies(t *testing.T) {
	p := picks(103)
	for range 500 {
		x := build(t, p.anyPackages()...)
		for range 20 {
			a := p.anyAtom()
			var want []int
			for place, q := range all(t, x) {
				if Satisfies(q, a) {
					want = append(want, place)
				}
			}
			wantMeets(t, x, a, want...)
		}
	}
}

// P10.3: an atom without relation is met by what meets it with any.
func TestWithoutRelation(t *testing.T) {
	p := picks(104)
	for range 500 {
		x := build(t, p.anyPackages()...)
		for range 20 {
			a := p.anyGoodAtom()
			without := x.Meets(api.Atom{Name: a.Name})
			for _, place := range x.Meets(a) {
				if !slices.Contains(without, place) {
					t.Errorf("%d meets %s, but not without relation", place, show(a))
				}
			}
		}
	}
}
