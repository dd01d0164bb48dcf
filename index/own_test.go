package index

import (
	"testing"

	"chandler/api"
)

// spoilList overwrites l, and what has room behind it.
func spoilList[S ~[]T, T any](l S, x T) {
	l = l[:cap(l)]
	for i := range l {
		l[i] = x
	}
}

// spoil overwrites all that p's lists have, and what has room behind them.
func spoil(p api.Package) {
	for _, l := range [][]api.Clause{p.PreDepends, p.Depends, p.Recommends} {
		for _, c := range l {
			spoilList(c, api.Atom{Name: "spoilt"})
		}
		spoilList(l, api.Clause{{Name: "spoilt"}})
	}
	spoilList(p.Conflicts, api.Atom{Name: "spoilt"})
	spoilList(p.Breaks, api.Atom{Name: "spoilt"})
	spoilList(p.Provides, api.Provide{Name: "spoilt"})
}

// some tells packages of which two have something in each list.
func some() []api.Package {
	second := full()
	second.Name = "bb"
	return []api.Package{second, pkg("aa 1"), full()}
}

// P10.2 with R2: packages that are handed in are not changed, and may be changed behind the call.
func TestHandedIn(t *testing.T) {
	l := some()
	before := show(l)
	x := build(t, l...)
	x.Names()
	x.Meets(atom("aa"))
	if show(l) != before {
		t.Errorf("changed: %s", show(l))
	}
	want := []api.Package{full(), pkg("aa 1"), some()[0]}
	for _, p := range l {
		spoil(p)
	}
	spoilList(l, pkg("zz 1"))
	wantIndex(t, x, want...)
	wantNames(t, x, "aa bb")
	wantMeets(t, x, atom("mm (= 3)"), 0, 2)
	wantMeets(t, x, atom("spoilt"))
}

// P10.2 with R2: what lies behind the lengths of lists is neither read nor written.
func TestBehindLength(t *testing.T) {
	row := []api.Atom{{Name: "bb"}, {Name: "a"}}
	p := pkg("aa 1")
	p.Depends = []api.Clause{row[:1], {{Name: "a"}}}[:1]
	p.Conflicts = row[:1]
	p.Provides = []api.Provide{{Name: "vv"}, {Name: "ww"}}[:1]
	l := []api.Package{pkg("bb 1"), p, {Name: "a"}}
	before := show(l)
	x := build(t, l[:2]...)
	wantIndex(t, x, p, pkg("bb 1"))
	wantMeets(t, x, atom("ww"))
	wantSatisfies(t, p, atom("ww"), false)
	wantClash(t, p, pkg("bb 1"), true)
	if show(l) != before || row[1].Name != "a" || p.Provides[:2][1].Name != "ww" {
		t.Errorf("changed: %s", show(l))
	}
}

// P10.2 with R2: a package that was told may be changed; the next one is as it was.
func TestToldPackage(t *testing.T) {
	x := build(t, some()...)
	first := all(t, x)
	second := all(t, x)
	for _, p := range first {
		spoil(p)
	}
	want := []api.Package{full(), pkg("aa 1"), some()[0]}
	if show(second) != show(want) {
		t.Errorf("shared: %s", show(second))
	}
	wantIndex(t, x, want...)
	wantMeets(t, x, atom("mm"), 0, 2)
	wantMeets(t, x, atom("spoilt"))
}

// P10.2 with R2: no two lists of one package that was told share memory, even if those of the one that was handed in did.
func TestToldLists(t *testing.T) {
	c := api.Clause{{Name: "bb"}}
	l := []api.Clause{c, c}
	p := api.Package{Name: "aa", Version: "1", PreDepends: l, Depends: l, Recommends: l, Conflicts: c, Breaks: c}
	x := build(t, p)
	want := show(p)
	told, _ := x.At(0)
	spoilList(told.PreDepends[0], api.Atom{Name: "spoilt"})
	spoilList(told.Conflicts, api.Atom{Name: "spoilt"})
	rest := []api.Clause{told.PreDepends[1], told.Depends[0], told.Depends[1], told.Recommends[0], told.Recommends[1], told.Breaks}
	if show(rest) != show(many(6, c)) {
		t.Errorf("shared: %s", show(told))
	}
	spoilList(told.Depends, api.Clause{{Name: "spoilt"}})
	if show(told.Recommends) != show(l) || show(p) != want {
		t.Errorf("shared: %s, %s", show(told), show(p))
	}
}

// P10.2 with R2: lists of names and places that were told may be changed; the next ones are as they were.
func TestToldPlaces(t *testing.T) {
	x := build(t, pkgs("aa 1", "aa 2", "aa 3", "bb 1; Provides: aa", "cc 1; Provides: aa")...)
	for range 3 {
		wantNames(t, x, "aa bb cc")
		wantOf(t, x, "aa", 0, 1, 2)
		wantOf(t, x, "bb", 3)
		wantMeets(t, x, atom("aa"), 0, 1, 2, 3, 4)
		wantMeets(t, x, atom("bb"), 3)
		wantFind(t, x, "aa", "1", 2)
		spoilList(x.Names(), "spoilt")
		spoilList(x.Of("aa"), 99)
		spoilList(x.Of("bb"), -1)
		spoilList(x.Meets(atom("aa")), 99)
		spoilList(x.Meets(atom("bb")), -1)
	}
}

// R2: an index keeps to itself: another one, made of the same packages or of others, makes no difference.
func TestApart(t *testing.T) {
	l := pkgs("bb 1; Provides: vv", "aa 1")
	x, y := build(t, l...), build(t, l[:1]...)
	wantIndex(t, x, pkgs("aa 1", "bb 1; Provides: vv")...)
	wantIndex(t, y, pkgs("bb 1; Provides: vv")...)
	wantMeets(t, x, atom("vv"), 1)
	wantMeets(t, y, atom("vv"), 0)
	wantRefused(t, api.ErrTwice, l[0], l[0])
	wantNames(t, x, "aa bb")
	wantNames(t, y, "bb")
}

// P10.1 with R2: what is asked about is not changed.
func TestAskedAbout(t *testing.T) {
	p, q := full(), pkg("jj 1; Breaks: mm (= 3); Provides: kk (= 2)")
	before := show([]api.Package{p, q})
	wantClash(t, p, q, true)
	wantSatisfies(t, p, atom("nn"), true)
	if show([]api.Package{p, q}) != before {
		t.Errorf("changed: %s, %s", show(p), show(q))
	}
}
