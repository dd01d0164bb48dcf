package record

import (
	"slices"
	"strings"
	"testing"

	"chandler/api"
)

// picks is a row of numbers that goes every which way, but always the same one.
type picks uint32

// pick tells the next number, at least 0 and below n.
func (p *picks) pick(n int) int {
	*p = *p*1664525 + 1013904223
	return int(*p>>8) % n
}

// anyVersion tells a version.
func (p *picks) anyVersion() string {
	all := []string{"1", "01", "1.0-0", "1~", "0:2", "2", "1:2.0~rc1-3", strings.Repeat("9", api.MaxVersion)}
	return all[p.pick(len(all))]
}

// anyName tells a name of a package.
func (p *picks) anyName() string {
	all := []string{"aa", "no", "yes", "b0+", "c.-", "unpacked", strings.Repeat("z", api.MaxName)}
	return all[p.pick(len(all))]
}

// anyAtom tells an atom that may be.
func (p *picks) anyAtom() api.Atom {
	a := api.Atom{Name: p.anyName(), Rel: p.pick(api.RGt + 1)}
	if a.Rel != api.RAny {
		a.Version = p.anyVersion()
	}
	return a
}

// anyProvide tells what may be provided.
func (p *picks) anyProvide() api.Provide {
	x := api.Provide{Name: p.anyName()}
	if p.pick(2) > 0 {
		x.Version = p.anyVersion()
	}
	return x
}

// some tells mostly few of them.
func some[T any](p *picks, least, most int, one func() T) []T {
	var l []T
	n := least + p.pick(3)
	if p.pick(20) == 0 {
		n = most
	}
	for range n {
		l = append(l, one())
	}
	return l
}

// anyClause tells a clause that may be.
func (p *picks) anyClause() api.Clause {
	return some(p, 1, api.MaxAtoms, p.anyAtom)
}

// anyPackage tells a package that may be.
func (p *picks) anyPackage() api.Package {
	return api.Package{
		Name:       p.anyName(),
		Version:    p.anyVersion(),
		PreDepends: some(p, 0, api.MaxClauses, p.anyClause),
		Depends:    some(p, 0, api.MaxClauses, p.anyClause),
		Recommends: some(p, 0, api.MaxClauses, p.anyClause),
		Conflicts:  some(p, 0, api.MaxClauses, p.anyAtom),
		Breaks:     some(p, 0, api.MaxClauses, p.anyAtom),
		Provides:   some(p, 0, api.MaxClauses, p.anyProvide),
		Essential:  p.pick(2) > 0,
	}
}

// samePackages tells whether a and b are the same packages, in their order.
func samePackages(a, b []api.Package) bool {
	return slices.EqualFunc(a, b, func(x, y api.Package) bool { return Same(x, y) && show(x) == show(y) })
}

// wantBack tells whether l has a print; it fails, if the packages of that are not l, or their print is another one.
func wantBack(t *testing.T, l ...api.Package) bool {
	t.Helper()
	b, e := Print(l)
	if e != api.OK {
		return false
	}
	got, at := Packages(b)
	if at != (api.At{}) || !samePackages(got, l) {
		t.Fatalf("%s, printed %q, parsed %s, %v", show(l), b, show(got), at)
	}
	if again, e := Print(got); e != api.OK || string(again) != string(b) {
		t.Fatalf("%s, printed %q, parsed and printed %q, %d", show(l), b, again, e)
	}
	return true
}

// wantStatusBack tells whether l has a print; it fails, if the entries of that are not l, or their print is another one.
func wantStatusBack(t *testing.T, l ...api.Entry) bool {
	t.Helper()
	b, e := PrintStatus(l)
	if e != api.OK {
		return false
	}
	got, at := Status(b)
	if at != (api.At{}) || show(got) != show(l) {
		t.Fatalf("%s, printed %q, parsed %s, %v", show(l), b, show(got), at)
	}
	if again, e := PrintStatus(got); e != api.OK || string(again) != string(b) {
		t.Fatalf("%s, printed %q, parsed and printed %q, %d", show(l), b, again, e)
	}
	return true
}

// P9.6: packages are there and back again; what is told of a stanza, too.
func TestPackagesThereAndBack(t *testing.T) {
	p := picks(96)
	printed := 0
	for range 2000 {
		var l []api.Package
		for range p.pick(4) {
			x := p.anyPackage()
			l = append(l, x)
			s, e := Stanza(x)
			if e != api.OK {
				t.Fatalf("%s has no stanza: %d", show(x), e)
			}
			wantOf(t, s, x)
		}
		if wantBack(t, l...) {
			printed++
		}
	}
	if printed < 1000 {
		t.Errorf("only %d were printed", printed)
	}
	wantBack(t)
	wantBack(t, versions("aa", api.MaxPackages)...)
	wantBack(t, named(api.MaxNames)...)
	wantBack(t, sized(api.MaxText)...)
}

// P9.6: entries are there and back again.
func TestStatusThereAndBack(t *testing.T) {
	p := picks(69)
	printed := 0
	for range 2000 {
		var l []api.Entry
		for range p.pick(5) {
			l = append(l, api.Entry{Pkg: p.anyPackage(), Configured: p.pick(2) > 0, Hold: p.pick(2) > 0})
		}
		slices.SortFunc(l, func(a, b api.Entry) int { return strings.Compare(a.Pkg.Name, b.Pkg.Name) })
		l = slices.CompactFunc(l, func(a, b api.Entry) bool { return a.Pkg.Name == b.Pkg.Name })
		if wantStatusBack(t, l...) {
			printed++
		}
	}
	if printed < 1000 {
		t.Errorf("only %d were printed", printed)
	}
	wantStatusBack(t)
	wantStatusBack(t, entries(named(api.MaxNames)...)...)
}

// P9.6: what is parsed of a text as it was written by hand has a print, and is there and back again.
func TestTextsThereAndBack(t *testing.T) {
	s := "# by hand\nversion:\n 01\nDEPENDS: bb|cc(>=1),\n .\n\tdd\nPackage: aa\nX: y\nEssential: no\n\n\n\nPackage: aa\nPROVIDES: ee(=2)\nVersion: 2\n"
	l, at := Packages([]byte(s))
	if at != (api.At{}) || len(l) != 2 || !wantBack(t, l...) {
		t.Errorf("%s, %v", show(l), at)
	}
	x, at := Status([]byte("State: configured\nPackage: aa\nHold:\n yes\nVersion: 1\nBreaks:bb\n\nHold: no\nversion: 2\npackage: bb\nstate:\n unpacked\n"))
	if at != (api.At{}) || len(x) != 2 || !wantStatusBack(t, x...) {
		t.Errorf("%s, %v", show(x), at)
	}
}

// P9.4, P9.6: the packages of a status are those of its entries.
func TestStatusAsPackages(t *testing.T) {
	l := []api.Entry{{Pkg: whole(), Configured: true, Hold: true}, {Pkg: pkg("bb", "1")}}
	b, e := PrintStatus(l)
	if e != api.OK {
		t.Fatal(e)
	}
	wantPackages(t, string(b), l[0].Pkg, l[1].Pkg)
}
