package index

import (
	"math"
	"slices"
	"testing"

	"chandler/api"
	"chandler/record"
)

// orders tells l in each order.
func orders[T any](l []T) [][]T {
	if len(l) == 0 {
		return [][]T{nil}
	}
	var all [][]T
	for _, rest := range orders(l[1:]) {
		for i := range l {
			all = append(all, slices.Insert(slices.Clone(rest), i, l[0]))
		}
	}
	return all
}

// full tells a package that has something in each field.
func full() api.Package {
	return pkg("aa 1:2-3; Essential: yes; Pre-Depends: bb; Depends: cc (>= 1) | dd, ee (<< 2); Recommends: ff (= 1), gg | hh; Conflicts: jj, kk (>> 1); Breaks: ll (<= 2); Provides: mm (= 3), nn")
}

// P10.2: the document's example.
func TestExample(t *testing.T) {
	x := build(t, pkgs("aa 1", "aa 2", "bb 1; Provides: aa (= 3)")...)
	wantIndex(t, x, pkgs("aa 2", "aa 1", "bb 1; Provides: aa (= 3)")...)
	wantMeets(t, x, atom("aa (>= 2)"), 0, 2)
}

// P10.2: of no packages there is an index, in which nothing is.
func TestNone(t *testing.T) {
	for _, l := range [][]api.Package{nil, {}, pkgs("aa 1")[:0]} {
		x := build(t, l...)
		wantIndex(t, x)
		wantNothing(t, x, 0)
		wantNames(t, x, "")
		wantOf(t, x, "aa")
		wantLost(t, x, "aa", "1")
		wantMeets(t, x, atom("aa"))
	}
}

// P10.2: a package has all its fields still.
func TestFields(t *testing.T) {
	wantIndex(t, build(t, full()), full())
	wantIndex(t, build(t, pkg("bb 1"), full(), pkg("aa 2")), full(), pkg("aa 2"), pkg("bb 1"))
}

// P10.2, P10.3: packages stand by name, of one name the greatest version first, however they were handed in.
func TestOrder(t *testing.T) {
	for _, want := range [][]api.Package{
		pkgs("0a 1", "a+ 1", "a- 1", "a. 1", "a0 1", "aa 1"),
		pkgs("aa 1", "aa+ 1", "aaa 1", "ab 1", "b0 1"),
		pkgs("aa 1:0", "aa 10", "aa 9", "aa 1-1", "aa 1", "aa 1~"),
		pkgs("aa 1.0+b1", "aa 1.0", "aa 1.0~rc1", "bb 2", "bb 1", "cc 3"),
		pkgs("aa 1; Provides: zz (= 9)", "bb 2; Provides: aa (= 7)", "bb 1; Provides: bb (= 9)", "cc 1", "zz 2", "zz 1; Conflicts: aa"),
	} {
		for _, l := range orders(want) {
			x := build(t, l...)
			wantIndex(t, x, want...)
			for i, p := range want {
				wantFind(t, x, p.Name, p.Version, i)
			}
		}
	}
}

// P10.2: packages that may not be: New tells record.MayAll's error, and no index.
func TestNewBad(t *testing.T) {
	good, bad := pkg("aa 1"), api.Package{Name: "a", Version: "1"}
	clauses := pkg("aa 1")
	clauses.Depends = many(api.MaxClauses+1, api.Clause{{Name: "bb"}})
	empty := pkg("aa 1")
	empty.Recommends = []api.Clause{{}}
	breaks := pkg("aa 1")
	breaks.Breaks = []api.Atom{{Name: "bb", Rel: 9, Version: "1"}}
	wantRefused(t, api.ErrForm, api.Package{})
	wantRefused(t, api.ErrForm, bad)
	wantRefused(t, api.ErrForm, api.Package{Name: "aa"})
	wantRefused(t, api.ErrForm, api.Package{Name: "aa", Version: "x"})
	wantRefused(t, api.ErrForm, good, bad)
	wantRefused(t, api.ErrForm, bad, good, good)
	wantRefused(t, api.ErrForm, empty)
	wantRefused(t, api.ErrForm, breaks)
	wantRefused(t, api.ErrMany, clauses)
	wantRefused(t, api.ErrMany, clauses, bad)
	wantRefused(t, api.ErrForm, bad, clauses)
	wantRefused(t, api.ErrTwice, good, good)
}

// P10.2: too many packages, or names of them, and just as many as may be.
func TestNewMany(t *testing.T) {
	most := versions("aa", api.MaxPackages)
	slices.Reverse(most)
	wantIndex(t, build(t, versions("aa", api.MaxPackages)...), most...)
	wantRefused(t, api.ErrMany, versions("aa", api.MaxPackages+1)...)
	wantRefused(t, api.ErrMany, many(api.MaxPackages+1, api.Package{})...)
	wantRefused(t, api.ErrMany, many(100000, pkg("aa 1"))...)
	wantIndex(t, build(t, named(api.MaxNames)...), named(api.MaxNames)...)
	wantRefused(t, api.ErrMany, named(api.MaxNames+1)...)
	wantRefused(t, api.ErrTwice, append(named(api.MaxNames+1), pkg("p100 1"))...)
}

// P10.2: two of one name whose versions are the same, however these are written.
func TestNewTwice(t *testing.T) {
	for _, v := range []string{"1", "01", "0:1", "1-0", "00:01-00"} {
		wantRefused(t, api.ErrTwice, pkg("aa 1"), pkg("aa "+v))
		wantRefused(t, api.ErrTwice, pkg("aa "+v), pkg("aa 2"), pkg("bb 1"), pkg("aa 1"))
		wantIndex(t, build(t, pkg("bb "+v), pkg("aa 1")), pkg("aa 1"), pkg("bb "+v))
	}
	wantIndex(t, build(t, pkg("aa 1"), pkg("aa 1.0")), pkg("aa 1.0"), pkg("aa 1"))
}

// P10.2: New's error is record.MayAll's, whatever is wrong, and in whatever order it stands.
func TestNewAsMayAll(t *testing.T) {
	parts := []api.Package{pkg("aa 1"), pkg("aa 01"), {Name: "a", Version: "1"}, {Name: "bb", Version: "1", Depends: many(api.MaxClauses+1, api.Clause{{Name: "aa"}})}, pkg("cc 1")}
	for _, l := range orders(parts) {
		for n := range len(l) + 1 {
			x, e := New(l[:n])
			if want := record.MayAll(l[:n]); e != want || (x == nil) != (want != api.OK) {
				t.Errorf("New(%.400s) = %v, %d; want %d", show(l[:n]), x, e, want)
			}
		}
	}
}

// P10.2: At ahead of the first place, at each, behind the last, and far off.
func TestAt(t *testing.T) {
	x := build(t, pkgs("bb 1", "aa 1", "aa 2")...)
	wantIndex(t, x, pkgs("aa 2", "aa 1", "bb 1")...)
	for _, i := range []int{-1, -2, -3, 3, 4, 24, math.MinInt, math.MinInt + 1, math.MaxInt, math.MaxInt - 1, 1 << 32, -1 << 32} {
		wantNothing(t, x, i)
	}
}

// P10.2: a nil index tells zero values.
func TestNil(t *testing.T) {
	var x *Index
	for _, i := range []int{-1, 0, 1, math.MinInt, math.MaxInt} {
		wantNothing(t, x, i)
	}
	wantIndex(t, x)
	wantNames(t, x, "")
	for _, name := range []string{"", "aa"} {
		wantOf(t, x, name)
		wantLost(t, x, name, "")
		wantLost(t, x, name, "1")
		wantMeets(t, x, api.Atom{Name: name})
		wantMeets(t, x, api.Atom{Name: name, Rel: api.RGe, Version: "1"})
	}
}

// R3: an index that New did not make is one without packages.
func TestZero(t *testing.T) {
	var x Index
	wantIndex(t, &x)
	wantNothing(t, &x, 0)
	wantNames(t, &x, "")
	wantOf(t, &x, "aa")
	wantLost(t, &x, "aa", "1")
	wantMeets(t, &x, atom("aa"))
}
