package state

import (
	"slices"
	"testing"

	"chandler/api"
	"chandler/index"
	"chandler/record"
)

// picks is a row of numbers that goes every which way, but always the same one.
type picks uint32

// pick tells the next number, at least 0 and below n.
func (p *picks) pick(n int) int {
	*p = *p*1664525 + 1013904223
	return int(*p>>8) % n
}

// one tells one of l.
func one[T any](p *picks, l []T) T {
	return l[p.pick(len(l))]
}

// anyName tells one of few names.
func (p *picks) anyName() string {
	return one(p, []string{"aa", "bb", "cc", "dd", "vv"})
}

// anyAtom tells an atom, which now and then may not be.
func (p *picks) anyAtom() api.Atom {
	a := api.Atom{Name: p.anyName(), Rel: p.pick(api.RGt + 1)}
	if a.Rel != api.RAny || p.pick(200) == 0 {
		a.Version = one(p, []string{"1", "2", "3"})
	}
	return a
}

// anyAtoms tells fewer than n atoms.
func (p *picks) anyAtoms(n int) []api.Atom {
	var l []api.Atom
	for range p.pick(n) {
		l = append(l, p.anyAtom())
	}
	return l
}

// anyClauses tells a few clauses, now and then one without atoms.
func (p *picks) anyClauses() []api.Clause {
	var l []api.Clause
	for range p.pick(3) {
		c := append(api.Clause{p.anyAtom()}, p.anyAtoms(3)...)
		if p.pick(200) == 0 {
			c = nil
		}
		l = append(l, c)
	}
	return l
}

// anyPackage tells a package of some name, which now and then may not be.
func (p *picks) anyPackage(name string) api.Package {
	x := api.Package{Name: name, Version: one(p, []string{"1", "2", "3"}), PreDepends: p.anyClauses(), Depends: p.anyClauses(), Recommends: p.anyClauses()}
	if p.pick(3) == 0 {
		x.Conflicts, x.Breaks = p.anyAtoms(3), p.anyAtoms(3)
	}
	if p.pick(2) == 0 {
		x.Provides = []api.Provide{{Name: p.anyName()}, {Name: "vv", Version: one(p, []string{"", "2"})}}
	}
	return x
}

// anyEntries tells a few entries: of most names none, of some several.
func (p *picks) anyEntries() []api.Entry {
	var l []api.Entry
	for _, name := range []string{"dd", "aa", "cc", "bb", "aa"} {
		if p.pick(4) == 0 || name == "aa" && p.pick(2) == 0 {
			continue
		}
		l = append(l, api.Entry{Pkg: p.anyPackage(name), Configured: p.pick(3) > 0, Hold: p.pick(2) > 0})
	}
	return l
}

// ofEntries tells the packages of l.
func ofEntries(l []api.Entry) []api.Package {
	var packages []api.Package
	for _, x := range l {
		packages = append(packages, x.Pkg)
	}
	return packages
}

// slowlyMet tells whether one of these packages Satisfies an atom of the clause.
func slowlyMet(l []api.Package, c api.Clause) bool {
	met := false
	for _, a := range c {
		for _, p := range l {
			met = met || index.Satisfies(p, a)
		}
	}
	return met
}

// slowlyHealthy tells whether l is a healthy whole, by the document's words.
func slowlyHealthy(l []api.Package) bool {
	healthy := true
	for i, p := range l {
		healthy = healthy && record.May(p) == api.OK
		for _, c := range slices.Concat(p.Depends, p.PreDepends) {
			healthy = healthy && slowlyMet(l, c)
		}
		for _, q := range l[:i] {
			healthy = healthy && p.Name != q.Name && !index.Clash(p, q)
		}
	}
	return healthy
}

// slowlyWrong tells whether v is a violation of l, whose names stand once, by the document's words.
func slowlyWrong(l []api.Entry, v api.Violation) bool {
	var there []api.Package
	for _, x := range l {
		if x.Configured {
			there = append(there, x.Pkg)
		}
	}
	at, other := api.Entry{}, api.Entry{}
	for _, x := range l {
		if x.Pkg.Name == v.Name {
			at = x
		}
		if x.Pkg.Name == v.Other {
			other = x
		}
	}
	switch {
	case v.Kind == api.VDepends && v.Other != "" || v.Kind != api.VDepends && (v.Pre || v.Other == v.Name):
		return false
	case v.Kind == api.VDepends && v.Pre:
		return v.I < len(at.Pkg.PreDepends) && !slowlyMet(there, at.Pkg.PreDepends[v.I])
	case v.Kind == api.VDepends:
		return v.I < len(at.Pkg.Depends) && at.Configured && !slowlyMet(there, at.Pkg.Depends[v.I])
	case v.Kind == api.VConflicts:
		return v.I < len(at.Pkg.Conflicts) && index.Satisfies(other.Pkg, at.Pkg.Conflicts[v.I])
	}
	return v.I < len(at.Pkg.Breaks) && other.Configured && index.Satisfies(other.Pkg, at.Pkg.Breaks[v.I])
}

// allViolations tells each violation that there could be among entries, in the order in which they are to be told.
func allViolations(l []api.Entry) []api.Violation {
	var all []api.Violation
	for _, x := range l {
		for _, v := range []api.Violation{{Kind: api.VDepends, Pre: true}, {Kind: api.VDepends}, {Kind: api.VConflicts}, {Kind: api.VBreaks}} {
			for i := range 4 {
				others := append([]api.Entry{{}}, l...)
				for _, y := range others {
					v.Name, v.I, v.Other = x.Pkg.Name, i, y.Pkg.Name
					all = append(all, v)
				}
			}
		}
	}
	return all
}

// hasTwice tells whether a name stands twice.
func hasTwice(l []api.Entry) bool {
	for i, x := range l {
		if place, _ := Find(l, x.Pkg.Name); place != i {
			return true
		}
	}
	return false
}

// P11.1, P11.2: Healthy and Wrong are as the document's words say, of many entries.
func TestAsWords(t *testing.T) {
	p := picks(111)
	count := map[string]int{}
	for range 5000 {
		l := p.anyEntries()
		packages := ofEntries(l)
		wantHealthy(t, slowlyHealthy(packages), packages...)
		if hasTwice(l) {
			count["twice"]++
			continue
		}
		var want []api.Violation
		for _, v := range allViolations(l) {
			if slowlyWrong(l, v) {
				want = append(want, v)
				count[string(rune('0'+v.Kind))]++
			}
		}
		if got := Wrong(l); !slices.Equal(got, want) {
			t.Fatalf("wrong with %s: %+v; want %+v", show(l), got, want)
		}
	}
	if count["1"] < 1000 || count["2"] < 500 || count["3"] < 200 || count["twice"] < 500 {
		t.Errorf("only %v", count)
	}
}

// P11.4: packages that are healthy have, all configured, nothing wrong; and the other way round, if each name stands once and each may be.
func TestHealthyIsNothingWrong(t *testing.T) {
	p := picks(112)
	count := map[bool]int{}
	for range 5000 {
		l := p.anyEntries()
		packages := ofEntries(l)
		healthy := Healthy(packages)
		count[healthy]++
		for _, s := range [][]api.Entry{nil, l} {
			wrong := Wrong(Whole(packages, s))
			if healthy && len(wrong) > 0 {
				t.Fatalf("healthy, but %+v: %s", wrong, show(packages))
			}
			may := !slices.ContainsFunc(packages, func(p api.Package) bool { return record.May(p) != api.OK })
			if !healthy && len(wrong) == 0 && may && !hasTwice(l) {
				t.Fatalf("nothing wrong, but not healthy: %s", show(packages))
			}
		}
	}
	if count[true] < 200 || count[false] < 200 {
		t.Errorf("only %v", count)
	}
}

// P11.3: Sorted, Find, Whole and Same fit together, of many entries.
func TestTogether(t *testing.T) {
	p := picks(113)
	for range 2000 {
		l := p.anyEntries()
		sorted := Sorted(l)
		if !slices.IsSortedFunc(sorted, func(x, y api.Entry) int { return slices.Compare([]byte(x.Pkg.Name), []byte(y.Pkg.Name)) }) || len(sorted) != len(l) {
			t.Fatalf("sorted: %s", show(sorted))
		}
		wantSame(t, true, sorted, Sorted(sorted))
		for _, x := range l {
			i, _ := Find(l, x.Pkg.Name)
			j, ok := Find(sorted, x.Pkg.Name)
			if !ok || !Same(l[i:i+1], sorted[j:j+1]) {
				t.Fatalf("%s is another one, sorted", x.Pkg.Name)
			}
		}
		if !hasTwice(l) {
			for i := range sorted {
				sorted[i].Configured = true
			}
			wantSame(t, true, Whole(ofEntries(l), l), sorted)
		}
	}
}

// P11.2, P11.3: in which order entries stand, whose names stand once, makes no difference to what is wrong with them, but for its order.
func TestWrongAnyOrder(t *testing.T) {
	p := picks(114)
	for range 2000 {
		l := p.anyEntries()
		a, b := Wrong(l), Wrong(Sorted(l))
		wantWithin(t, true, a, b)
		wantWithin(t, true, b, a)
	}
}
