package record

import (
	"slices"
	"strings"
	"testing"

	"chandler/api"
)

// fault is something that is wrong with one of a package's fields, and what is told of it.
type fault struct {
	field string
	turn  func(p *api.Package)
	want  api.Errno
}

// many tells so many of x.
func many[T any](n int, x T) []T {
	return slices.Repeat([]T{x}, n)
}

// badAtoms tells atoms that may not be.
func badAtoms() []api.Atom {
	long, longVersion := strings.Repeat("a", api.MaxName+1), strings.Repeat("1", api.MaxVersion+1)
	return []api.Atom{
		{}, {Name: "a"}, {Name: "Aa"}, {Name: long}, {Name: "aa", Version: "1"}, {Name: "aa", Rel: api.REq}, {Name: "aa", Rel: api.RGt, Version: "x"},
		{Name: "aa", Rel: api.RLt, Version: longVersion}, {Name: "aa", Rel: 6, Version: "1"}, {Name: "aa", Rel: -1, Version: "1"}, {Name: "", Rel: api.RGe, Version: "1"},
	}
}

// badProvides tells what may not be provided.
func badProvides() []api.Provide {
	long, longVersion := strings.Repeat("a", api.MaxName+1), strings.Repeat("1", api.MaxVersion+1)
	return []api.Provide{{}, {Name: "a"}, {Name: "Aa"}, {Name: long}, {Version: "1"}, {Name: "aa", Version: "x"}, {Name: "aa", Version: longVersion}, {Name: "aa", Version: "1 "}}
}

// clauseFaults tells what may be wrong with a field of clauses.
func clauseFaults(field string, of func(p *api.Package) *[]api.Clause) []fault {
	good := api.Atom{Name: "aa"}
	turn := func(want api.Errno, l ...api.Clause) fault {
		return fault{field, func(p *api.Package) { *of(p) = l }, want}
	}
	all := []fault{
		turn(api.ErrMany, many(api.MaxClauses+1, api.Clause{good})...),
		turn(api.ErrMany, many(api.MaxClauses+1, api.Clause{})...),
		turn(api.ErrMany, many(1000, api.Clause{good})...),
		turn(api.ErrMany, many(api.MaxAtoms+1, good)),
		turn(api.ErrMany, make(api.Clause, 1000)),
		turn(api.ErrMany, api.Clause{good}, many(api.MaxAtoms+1, good)),
		turn(api.ErrMany, append(many(api.MaxClauses-1, api.Clause{good}), many(api.MaxAtoms+1, good))...),
		// Of one field, too many is told ahead of what may not be, wherever that stands.
		turn(api.ErrMany, api.Clause{}, many(api.MaxAtoms+1, good)),
		turn(api.ErrMany, api.Clause{{}}, many(api.MaxAtoms+1, good)),
		turn(api.ErrMany, append([]api.Clause{{{}}}, many(api.MaxClauses, api.Clause{good})...)...),
		turn(api.ErrForm, nil),
		turn(api.ErrForm, api.Clause{}),
		turn(api.ErrForm, api.Clause{good}, api.Clause{}),
		turn(api.ErrForm, api.Clause{}, api.Clause{good}),
		turn(api.ErrForm, append(many(api.MaxClauses-1, api.Clause{good}), nil)...),
	}
	for _, bad := range badAtoms() {
		all = append(all,
			turn(api.ErrForm, api.Clause{bad}),
			turn(api.ErrForm, api.Clause{good, bad}),
			turn(api.ErrForm, api.Clause{bad, good}),
			turn(api.ErrForm, api.Clause{good}, append(many(api.MaxAtoms-1, good), bad)))
	}
	return all
}

// atomFaults tells what may be wrong with a field of atoms.
func atomFaults(field string, of func(p *api.Package) *[]api.Atom) []fault {
	return itemFaults(field, of, api.Atom{Name: "aa"}, badAtoms())
}

// itemFaults tells what may be wrong with a field of items that stand for themselves.
func itemFaults[T any](field string, of func(p *api.Package) *[]T, good T, bads []T) []fault {
	turn := func(want api.Errno, l ...T) fault {
		return fault{field, func(p *api.Package) { *of(p) = l }, want}
	}
	all := []fault{turn(api.ErrMany, many(api.MaxClauses+1, good)...), turn(api.ErrMany, many(1000, good)...)}
	for _, bad := range bads {
		all = append(all,
			turn(api.ErrForm, bad),
			turn(api.ErrForm, good, bad),
			turn(api.ErrForm, bad, good),
			turn(api.ErrForm, append(many(api.MaxClauses-1, good), bad)...),
			turn(api.ErrMany, append([]T{bad}, many(api.MaxClauses, good)...)...))
	}
	return all
}

// faults tells what may be wrong with a package, by its fields, in the order in which they are asked.
func faults() [][]fault {
	name := func(s string) fault { return fault{"Name", func(p *api.Package) { p.Name = s }, api.ErrForm} }
	version := func(s string) fault { return fault{"Version", func(p *api.Package) { p.Version = s }, api.ErrForm} }
	return [][]fault{
		{name(""), name("a"), name("Aa"), name("a b"), name("-a"), name("a\xff"), name(strings.Repeat("a", api.MaxName+1))},
		{version(""), version("x"), version("1-"), version(":1"), version("1 "), version(strings.Repeat("1", api.MaxVersion+1))},
		clauseFaults("PreDepends", func(p *api.Package) *[]api.Clause { return &p.PreDepends }),
		clauseFaults("Depends", func(p *api.Package) *[]api.Clause { return &p.Depends }),
		clauseFaults("Recommends", func(p *api.Package) *[]api.Clause { return &p.Recommends }),
		atomFaults("Conflicts", func(p *api.Package) *[]api.Atom { return &p.Conflicts }),
		atomFaults("Breaks", func(p *api.Package) *[]api.Atom { return &p.Breaks }),
		itemFaults("Provides", func(p *api.Package) *[]api.Provide { return &p.Provides }, api.Provide{Name: "aa"}, badProvides()),
	}
}

// P9.1: packages that may be: with nothing, with something in each field, with as much as may be.
func TestMayGood(t *testing.T) {
	wantMay(t, pkg("aa", "1"), api.OK)
	wantMay(t, pkg("no", "0"), api.OK)
	wantMay(t, whole(), api.OK)
	wantMay(t, pkg(strings.Repeat("a", api.MaxName), strings.Repeat("1", api.MaxVersion)), api.OK)
	wantMay(t, api.Package{Name: "aa", Version: "1", PreDepends: []api.Clause{}, Depends: []api.Clause{}, Conflicts: []api.Atom{}, Provides: []api.Provide{}}, api.OK)
	wantMay(t, largest(), api.OK)
	p := pkg("aa", "1")
	for _, rel := range []int{api.RLt, api.RLe, api.REq, api.RGe, api.RGt} {
		a := api.Atom{Name: "aa", Rel: rel, Version: "1"}
		p.Depends = append(p.Depends, api.Clause{a})
		p.Breaks = append(p.Breaks, a)
	}
	wantMay(t, p, api.OK)
}

// largest tells a package that has as much of everything as may be.
func largest() api.Package {
	a := api.Atom{Name: strings.Repeat("a", api.MaxName), Rel: api.RGe, Version: strings.Repeat("1", api.MaxVersion)}
	l := many(api.MaxClauses, api.Clause(many(api.MaxAtoms, a)))
	row := many(api.MaxClauses, a)
	p := api.Package{Name: a.Name, Version: a.Version, PreDepends: l, Depends: l, Recommends: l, Conflicts: row, Breaks: row}
	p.Provides = many(api.MaxClauses, api.Provide{Name: a.Name, Version: a.Version})
	return p
}

// P9.1: each field wrong by itself, in each way, in a package that has nothing else, that has all, that has as much as may be.
func TestMayOneFault(t *testing.T) {
	for _, field := range faults() {
		for _, f := range field {
			for _, p := range []api.Package{pkg("aa", "1"), whole(), largest()} {
				f.turn(&p)
				wantMay(t, p, f.want)
				wantAll(t, f.want, p)
				wantEntries(t, f.want, api.Entry{Pkg: p, Configured: true})
			}
		}
	}
}

// P9.1: of two fields that are wrong the first one's error is told.
func TestMayTwoFaults(t *testing.T) {
	all := faults()
	for i, field := range all {
		for _, later := range all[i+1:] {
			for _, f := range field {
				for _, g := range later {
					p := pkg("aa", "1")
					g.turn(&p)
					f.turn(&p)
					if got := May(p); got != f.want {
						t.Fatalf("%s %d and %s %d wrong: %d", f.field, f.want, g.field, g.want, got)
					}
				}
			}
		}
	}
}

// P9.1: what is provided has a version, or none; no relation is asked of it.
func TestMayProvides(t *testing.T) {
	p := pkg("aa", "1")
	p.Provides = []api.Provide{{Name: "aa"}, {Name: "bb", Version: "0"}, {Name: "bb", Version: "1:2~-3"}, {Name: "bb"}, {Name: "bb"}}
	wantMay(t, p, api.OK)
}

// P9.1: as many packages, and as many names of them, as may be, and one more.
func TestMayAllMany(t *testing.T) {
	wantAll(t, api.OK)
	wantAll(t, api.OK, versions("aa", api.MaxPackages)...)
	wantAll(t, api.ErrMany, versions("aa", api.MaxPackages+1)...)
	wantAll(t, api.ErrMany, versions("aa", 1000)...)
	wantAll(t, api.OK, named(api.MaxNames)...)
	wantAll(t, api.ErrMany, named(api.MaxNames+1)...)
	wantAll(t, api.ErrMany, named(api.MaxPackages)...)
	ten := named(api.MaxNames)
	wantAll(t, api.OK, join(ten, versions(ten[0].Name, api.MaxPackages-api.MaxNames+1)[1:])...)
	wantAll(t, api.ErrMany, join(ten, versions("zz", api.MaxPackages-api.MaxNames))...)
	wantAll(t, api.ErrMany, join(versions("zz", api.MaxPackages-api.MaxNames), ten)...)
	// The same names stand apart from one another.
	apart := join(ten, ten)
	for i := range ten {
		apart[i].Version = "2"
	}
	wantAll(t, api.OK, apart...)
}

// P9.1: two of one name whose versions are the same, however they are written; and such as are not.
func TestMayAllTwice(t *testing.T) {
	for _, pair := range [][2]string{{"1", "1"}, {"1", "01"}, {"1.0", "1.0-0"}, {"1", "0:1"}, {"1.09", "1.9"}, {"00:1-1", "1-01"}} {
		a, b := pkg("aa", pair[0]), pkg("aa", pair[1])
		wantAll(t, api.ErrTwice, a, b)
		wantAll(t, api.ErrTwice, b, a)
		wantAll(t, api.ErrTwice, pkg("bb", "1"), a, pkg("aa", "7"), pkg("cc", "1"), b)
		b.Name = "bb"
		wantAll(t, api.OK, a, b)
	}
	wantAll(t, api.OK, pkg("aa", "1"), pkg("aa", "1.0"), pkg("aa", "1-1"), pkg("aa", "1~"), pkg("aa", "1:1"), pkg("aa", "2"))
	p := whole()
	wantAll(t, api.ErrTwice, pkg("aa", p.Version), p)
}

// P9.1: of several faults: too many, then those of each, then twice, then too many names.
func TestMayAllTwoFaults(t *testing.T) {
	bad, wide, good := pkg("a", "1"), pkg("aa", "1"), pkg("aa", "1")
	wide.Breaks = many(api.MaxClauses+1, api.Atom{Name: "aa"})
	wantAll(t, api.ErrMany, many(api.MaxPackages+1, bad)...)
	wantAll(t, api.ErrForm, many(api.MaxPackages, bad)...)
	wantAll(t, api.ErrMany, many(api.MaxPackages+1, good)...)
	wantAll(t, api.ErrTwice, many(api.MaxPackages, good)...)
	wantAll(t, api.ErrForm, bad, wide)
	wantAll(t, api.ErrMany, wide, bad)
	wantAll(t, api.ErrForm, good, good, bad)
	wantAll(t, api.ErrMany, good, good, wide)
	wantAll(t, api.ErrForm, append(named(api.MaxNames+1), bad)...)
	wantAll(t, api.ErrTwice, append(named(api.MaxNames+1), good, good)...)
	wantAll(t, api.ErrTwice, append(named(api.MaxNames+1), pkg("p100", "1-0"))...)
}

// P9.1: as many entries as may be, and one more; names that rise, that fall, that stand twice.
func TestMayEntries(t *testing.T) {
	ten := entries(named(api.MaxNames)...)
	wantEntries(t, api.OK)
	wantEntries(t, api.OK, ten...)
	wantEntries(t, api.ErrMany, entries(named(api.MaxNames+1)...)...)
	wantEntries(t, api.ErrMany, entries(named(1000)...)...)
	for i := range api.MaxNames - 1 {
		swapped, twice := slices.Clone(ten), slices.Clone(ten)
		swapped[i], swapped[i+1] = swapped[i+1], swapped[i]
		wantEntries(t, api.ErrTwice, swapped...)
		twice[i+1] = twice[i]
		wantEntries(t, api.ErrTwice, twice...)
		twice[i+1].Pkg.Version = "2"
		wantEntries(t, api.ErrTwice, twice...)
	}
	wantEntries(t, api.ErrTwice, entries(pkg("bb", "1"), pkg("cc", "1"), pkg("aa", "1"))...)
	wantEntries(t, api.ErrTwice, entries(pkg("aa", "1"), pkg("bb", "1"), pkg("aa", "1"))...)
}

// P9.1: names rise byte by byte, a beginning ahead of what goes on.
func TestMayEntriesOrder(t *testing.T) {
	rising := []string{"00", "0a", "9.", "a+", "a-", "a.", "a0", "aa", "aa+", "aaa", "ab", "b0", "zz"}
	for i, a := range rising {
		for j, b := range rising {
			want := api.ErrTwice
			if i < j {
				want = api.OK
			}
			wantEntries(t, want, entries(pkg(a, "2"), pkg(b, "1"))...)
		}
	}
}

// P9.1: of several faults of entries: too many, then those of each, then names that do not rise.
func TestMayEntriesTwoFaults(t *testing.T) {
	bad, wide := pkg("a", "1"), pkg("aa", "1")
	wide.Provides = many(api.MaxClauses+1, api.Provide{Name: "aa"})
	wantEntries(t, api.ErrMany, entries(many(api.MaxNames+1, bad)...)...)
	wantEntries(t, api.ErrForm, entries(many(api.MaxNames, bad)...)...)
	wantEntries(t, api.ErrMany, entries(many(api.MaxNames+1, pkg("aa", "1"))...)...)
	wantEntries(t, api.ErrTwice, entries(many(api.MaxNames, pkg("aa", "1"))...)...)
	wantEntries(t, api.ErrForm, entries(pkg("bb", "1"), pkg("aa", "1"), bad)...)
	wantEntries(t, api.ErrMany, entries(pkg("bb", "1"), pkg("aa", "1"), wide)...)
	wantEntries(t, api.ErrForm, entries(bad, wide)...)
	wantEntries(t, api.ErrMany, entries(wide, bad)...)
}
