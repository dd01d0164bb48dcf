package own

import (
	"fmt"
	"testing"

	"chandler/api"
)

// full tells a package that has something in each field.
func full(name string) api.Package {
	atoms := func() []api.Atom { return []api.Atom{{Name: name}, {Name: "cc", Rel: api.RGe, Version: "1"}} }
	clauses := func() []api.Clause { return []api.Clause{atoms(), atoms()[:1], nil} }
	return api.Package{Name: name, Version: "1", PreDepends: clauses(), Depends: clauses(), Recommends: clauses(), Conflicts: atoms(), Breaks: atoms(), Provides: []api.Provide{{Name: name}}, Essential: true}
}

// spoilList overwrites l, and what has room behind it.
func spoilList[S ~[]T, T any](l S, x T) {
	l = l[:cap(l)]
	for i := range l {
		l[i] = x
	}
}

// spoil overwrites all that p's lists have, and what has room behind them.
func spoil(p api.Package) {
	for _, l := range [][]api.Clause{p.PreDepends, p.Depends, p.Recommends} {
		for _, c := range l {
			spoilList(c, api.Atom{Name: "spoilt"})
		}
		spoilList(l, api.Clause{{Name: "spoilt"}})
	}
	spoilList(p.Conflicts, api.Atom{Name: "spoilt"})
	spoilList(p.Breaks, api.Atom{Name: "spoilt"})
	spoilList(p.Provides, api.Provide{Name: "spoilt"})
}

// wantAs fails, if got does not have just what want has.
func wantAs(t *testing.T, got, want any) {
	t.Helper()
	if fmt.Sprintf("%+q", got) != fmt.Sprintf("%+q", want) {
		t.Errorf("%+q; want %+q", got, want)
	}
}

// What is copied has all that there was; what there was may be spoilt, and so may the copy.
func TestPackages(t *testing.T) {
	want := []api.Package{full("aa"), {}, full("bb")}
	l := []api.Package{full("aa"), {}, full("bb")}
	first, second, single := Packages(l), Packages(l), Package(l[2])
	wantAs(t, first, want)
	for _, p := range first {
		spoil(p)
	}
	spoilList(first, api.Package{})
	wantAs(t, l, want)
	for _, p := range l {
		spoil(p)
	}
	spoilList(l, api.Package{})
	wantAs(t, second, want)
	wantAs(t, single, want[2])
}

// Entries likewise, with what stands beside their packages.
func TestEntries(t *testing.T) {
	want := []api.Entry{{Pkg: full("aa"), Configured: true}, {Hold: true}, {Pkg: full("bb"), Configured: true, Hold: true}}
	l := []api.Entry{{Pkg: full("aa"), Configured: true}, {Hold: true}, {Pkg: full("bb"), Configured: true, Hold: true}}
	first, second := Entries(l), Entries(l)
	wantAs(t, first, want)
	for _, x := range first {
		spoil(x.Pkg)
	}
	spoilList(first, api.Entry{})
	wantAs(t, l, want)
	for _, x := range l {
		spoil(x.Pkg)
	}
	spoilList(l, api.Entry{})
	wantAs(t, second, want)
}

// Clauses that share memory have each their own, once copied.
func TestClauses(t *testing.T) {
	c := api.Clause{{Name: "aa"}, {Name: "bb"}}
	l := Clauses([]api.Clause{c, c, c[:1]})
	spoilList(l[0], api.Atom{})
	wantAs(t, l[1:], []api.Clause{c, c[:1]})
	wantAs(t, c, api.Clause{{Name: "aa"}, {Name: "bb"}})
	spoilList(l[2], api.Atom{})
	wantAs(t, c, api.Clause{{Name: "aa"}, {Name: "bb"}})
}

// Of nothing there is nothing.
func TestNone(t *testing.T) {
	if len(Packages(nil)) != 0 || len(Packages([]api.Package{})) != 0 || len(Entries(nil)) != 0 || len(Clauses(nil)) != 0 {
		t.Error("something of nothing")
	}
	wantAs(t, Package(api.Package{}), api.Package{})
}
