package state

import (
	"slices"
	"strings"
	"testing"

	"chandler/api"
)

// P11.3: entries by name, byte by byte, in whatever order they come, with all that they have.
func TestSorted(t *testing.T) {
	wantEntries(t, Sorted(nil))
	wantEntries(t, Sorted([]api.Entry{}))
	wantEntries(t, Sorted(ents("-!aa 1")), ents("-!aa 1")...)
	for _, want := range [][]api.Entry{
		ents("+aa 1", "-aa+ 2", "+!aaa 3", "-!ab 1; Depends: zz"),
		ents("-0a 1", "+a+ 1", "+a- 1", "-a. 1", "+a0 1", "+aa 1"),
		{{Pkg: api.Package{}}, {Pkg: api.Package{Name: "A"}}, {Pkg: api.Package{Name: "a"}, Hold: true}, {Pkg: full("aa"), Configured: true}, {Pkg: api.Package{Name: "\xff"}}},
	} {
		for _, l := range orders(want) {
			wantEntries(t, Sorted(l), want...)
		}
	}
}

// P11.3: entries of one name stay in their order, few or many.
func TestSortedOneName(t *testing.T) {
	wantEntries(t, Sorted(ents("+bb 1", "+aa 2", "-aa 1", "+bb 3", "-!aa 3", "+bb 2")), ents("+aa 2", "-aa 1", "-!aa 3", "+bb 1", "+bb 3", "+bb 2")...)
	var l, first, second []api.Entry
	for i := range 500 {
		a, b := api.Entry{Pkg: api.Package{Name: "aa", Version: strings.Repeat("1", i)}}, api.Entry{Pkg: api.Package{Name: "bb", Version: strings.Repeat("2", i*7%500)}}
		l = append(l, b, a)
		first, second = append(first, a), append(second, b)
	}
	wantEntries(t, Sorted(l), append(first, second...)...)
}

// P11.3: the first of a name, and none of another.
func TestFind(t *testing.T) {
	l := ents("+bb 1; Provides: vv, aa; Depends: dd", "-cc 1", "+!aa 2", "-aa 1", "+bb 2")
	wantFind(t, l, "bb", 0)
	wantFind(t, l, "cc", 1)
	wantFind(t, l, "aa", 2)
	for _, name := range []string{"", "a", "aaa", "AA", "Bb", "bb ", " bb", "vv", "dd", "zz", "bb 1", strings.Repeat("a", 100000)} {
		wantFind(t, l, name, -1)
		wantFind(t, nil, name, -1)
		wantFind(t, []api.Entry{}, name, -1)
		wantFind(t, append(slices.Clone(l), many(2, api.Entry{Pkg: api.Package{Name: name}})...), name, len(l))
	}
}

// P11.3: the same entries are so in each field, in number and in order.
func TestSame(t *testing.T) {
	l := func() []api.Entry { return []api.Entry{{Pkg: full("aa")}, ent("+!bb 1"), ent("-cc 1")} }
	wantSame(t, true, nil, nil)
	wantSame(t, true, nil, []api.Entry{})
	wantSame(t, true, l(), l())
	wantSame(t, true, make([]api.Entry, 2), []api.Entry{{}, {}})
	wantSame(t, false, nil, make([]api.Entry, 1))
	wantSame(t, false, l(), nil)
	wantSame(t, false, l(), l()[:2])
	wantSame(t, false, l(), l()[1:])
	wantSame(t, false, l(), append(l(), l()[2]))
	for i, a := range orders(l()) {
		for j, b := range orders(l()) {
			wantSame(t, i == j, a, b)
		}
	}
}

// P11.3: entries that differ in one field are others, be it in the package, or beside it.
func TestSameFields(t *testing.T) {
	for _, turn := range []func(x *api.Entry){
		func(x *api.Entry) { x.Configured = !x.Configured },
		func(x *api.Entry) { x.Hold = !x.Hold },
		func(x *api.Entry) { x.Pkg.Name = "ab" },
		func(x *api.Entry) { x.Pkg.Version = "01:2-3" },
		func(x *api.Entry) { x.Pkg.PreDepends = nil },
		func(x *api.Entry) { x.Pkg.Depends[0][1].Name = "xx" },
		func(x *api.Entry) { x.Pkg.Recommends = x.Pkg.Recommends[:1] },
		func(x *api.Entry) { x.Pkg.Conflicts[1].Rel = api.RGe },
		func(x *api.Entry) { x.Pkg.Breaks[0].Version = "02" },
		func(x *api.Entry) { x.Pkg.Provides[0].Version = "" },
		func(x *api.Entry) { x.Pkg.Essential = false },
	} {
		for place := range 3 {
			for _, x := range []api.Entry{{}, {Configured: true}, {Hold: true}, {Configured: true, Hold: true}} {
				var a, b []api.Entry
				for range 3 {
					x.Pkg = full("aa")
					a = append(a, x)
					x.Pkg = full("aa")
					b = append(b, x)
				}
				wantSame(t, true, a, b)
				turn(&b[place])
				wantSame(t, false, a, b)
				turn(&a[place])
				wantSame(t, true, a, b)
			}
		}
	}
}

// P11.3: packages as entries: by name, all configured, with the holds of their names.
func TestWhole(t *testing.T) {
	s := ents("-bb 1", "-!cc 1", "+!dd 1", "+!aa 1; Depends: bb", "-ee 1")
	want := ents("+!aa 3", "+bb 2", "+!cc 1", "+ff 1; Depends: aa")
	for _, l := range orders(pkgs("aa 3", "bb 2", "cc 1", "ff 1; Depends: aa")) {
		for _, s := range orders(s) {
			wantEntries(t, Whole(l, s), want...)
		}
	}
	wantEntries(t, Whole(nil, nil))
	wantEntries(t, Whole(nil, s))
	wantEntries(t, Whole([]api.Package{}, []api.Entry{}))
	wantEntries(t, Whole(pkgs("bb 1", "aa 1"), nil), ents("+aa 1", "+bb 1")...)
	wantEntries(t, Whole([]api.Package{full("ff"), full("dd")}, s), api.Entry{Pkg: full("dd"), Configured: true, Hold: true}, api.Entry{Pkg: full("ff"), Configured: true})
}

// P11.3: packages and entries are taken as they are: of one name, or such as may not be.
func TestWholeBad(t *testing.T) {
	wantEntries(t, Whole(pkgs("bb 1", "aa 2", "aa 1", "aa 2"), ents("+!aa 7")), ents("+!aa 2", "+!aa 1", "+!aa 2", "+bb 1")...)
	// Of several of one name the first one's hold counts.
	wantEntries(t, Whole(pkgs("aa 1", "bb 1"), ents("+aa 1", "-!aa 1", "-!bb 1", "+bb 1")), ents("+aa 1", "+!bb 1")...)
	bad := []api.Package{{Name: "x", Version: "?"}, {}, {Name: "aa", Depends: []api.Clause{{}}}}
	want := []api.Entry{{Configured: true, Hold: true}, {Pkg: bad[2], Configured: true}, {Pkg: bad[0], Configured: true, Hold: true}}
	wantEntries(t, Whole(bad, []api.Entry{{Hold: true}, {Pkg: api.Package{Name: "x", Version: "1"}, Hold: true}}), want...)
	wantEntries(t, Whole(named(1000), nil), configured(named(1000))...)
}
