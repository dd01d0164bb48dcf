package index

import (
	"testing"

	"chandler/api"
)

// P10.2: the places of all that meet an atom, by themselves or by what they provide, rising, in whatever order they were handed in.
func TestMeets(t *testing.T) {
	for _, l := range orders(pkgs("aa 1", "aa 2", "bb 1; Provides: aa (= 3), vv", "cc 1~; Provides: aa", "aa 10; Provides: aa (= 0), aa")) {
		x := build(t, l...) // aa 10, aa 2, aa 1, bb, cc
		wantMeets(t, x, atom("aa"), 0, 1, 2, 3, 4)
		wantMeets(t, x, atom("aa (>= 2)"), 0, 1, 3)
		wantMeets(t, x, atom("aa (>> 2)"), 0, 3)
		wantMeets(t, x, atom("aa (<= 2)"), 0, 1, 2)
		wantMeets(t, x, atom("aa (<< 2)"), 0, 2)
		wantMeets(t, x, atom("aa (= 2-0)"), 1)
		wantMeets(t, x, atom("aa (= 0)"), 0)
		wantMeets(t, x, atom("aa (>> 10)"))
		wantMeets(t, x, atom("bb"), 3)
		wantMeets(t, x, atom("bb (>= 2)"))
		wantMeets(t, x, atom("vv"), 3)
		wantMeets(t, x, atom("vv (>= 0)"))
		wantMeets(t, x, atom("cc (<< 1)"), 4)
		wantMeets(t, x, atom("cc (= 1)"))
		wantMeets(t, x, atom("zz"))
		wantMeets(t, x, atom("zz (>= 0)"))
	}
}

// P10.2: each place stands once, however often its package provides the name.
func TestMeetsOnce(t *testing.T) {
	x := build(t, pkgs("aa 1; Provides: aa, bb, aa (= 1), bb (= 1), aa, bb", "bb 1; Provides: bb, aa (= 1), bb (= 1), aa")...)
	for _, s := range []string{"aa", "bb", "aa (= 1)", "bb (= 1)"} {
		wantMeets(t, x, atom(s), 0, 1)
	}
}

// P10.2: an atom that may not be is met by none.
func TestMeetsBad(t *testing.T) {
	x := build(t, pkgs("aa 1; Provides: bb", "bb 1; Provides: aa (= 1), aa")...)
	for _, a := range append(badAtoms("aa", "1"), badAtoms("bb", "1")...) {
		wantMeets(t, x, a)
	}
	for _, name := range noNames() {
		wantMeets(t, x, api.Atom{Name: name})
		wantMeets(t, x, api.Atom{Name: name, Rel: api.RLe, Version: "1"})
	}
	for _, v := range noVersions() {
		wantMeets(t, x, api.Atom{Name: "aa", Rel: api.RLe, Version: v})
	}
}

// P10.2: as many packages as may be, all of which meet an atom, each of which alone meets another one.
func TestMeetsMany(t *testing.T) {
	l := versions("aa", api.MaxPackages)
	x := build(t, l...)
	if got := x.Meets(atom("aa")); len(got) != api.MaxPackages {
		t.Errorf("%v meet it", got)
	}
	for i, p := range l {
		wantMeets(t, x, api.Atom{Name: "aa", Rel: api.REq, Version: p.Version}, api.MaxPackages-1-i)
	}
	wantMeets(t, x, atom("aa (<< 3)"), api.MaxPackages-2, api.MaxPackages-1)
	wantMeets(t, x, atom("aa (>= 23)"), 0, 1)
}
