package universe

import (
	"slices"
	"testing"

	"chandler/api"
	"chandler/record"
)

// P12.1: what is to be had and what is there, together, in all their fields.
func TestAll(t *testing.T) {
	wantAll(t, pkgs("aa 1; Depends: bb", "bb 1", "cc 1"), nil, pkgs("aa 1; Depends: bb", "bb 1", "cc 1")...)
	wantAll(t, pkgs("cc 1", "aa 2"), ents("+bb 1", "-dd 1"), pkgs("aa 2", "bb 1", "cc 1", "dd 1")...)
	wantAll(t, []api.Package{full("bb"), full("aa")}, []api.Entry{{Pkg: full("cc"), Hold: true}}, full("aa"), full("bb"), full("cc"))
	// Nothing needs to be healthy, and nothing is reached from anywhere.
	wantAll(t, pkgs("bb 1; Conflicts: aa"), ents("-aa 1; Depends: zz; Breaks: bb"), pkgs("aa 1; Depends: zz; Breaks: bb", "bb 1; Conflicts: aa")...)
}

// P12.1: no packages, no entries, neither.
func TestAllNone(t *testing.T) {
	for _, repo := range [][]api.Package{nil, {}, pkgs("zz 1")[:0]} {
		for _, s := range [][]api.Entry{nil, {}, ents("+zz 1")[:0]} {
			wantAll(t, repo, s)
			wantAll(t, pkgs("bb 1", "aa 1"), s, pkgs("aa 1", "bb 1")...)
			wantAll(t, repo, ents("+aa 1", "-bb 1"), pkgs("aa 1", "bb 1")...)
		}
	}
}

// P12.1: an entry, whatever its state, makes just its package one of all.
func TestAllStates(t *testing.T) {
	for _, sign := range []string{"+", "-", "+!", "-!"} {
		wantAll(t, nil, ents(sign+"aa 1; Essential: yes"), pkg("aa 1; Essential: yes"))
		wantAll(t, pkgs("aa 2", "aa 01"), ents(sign+"aa 1"), pkgs("aa 2", "aa 1")...)
	}
}

// P12.1: where an entry and a package of repo have one name and one version, however it is written, the entry's stands, in all its fields.
func TestAllSame(t *testing.T) {
	for _, v := range []string{"1", "01", "0:1", "1-0", "00:01-00"} {
		for _, w := range []string{"1", "01", "0:1", "1-0", "00:01-00"} {
			mine := pkg("aa " + v + "; Depends: bb; Provides: mine")
			wantAll(t, pkgs("aa "+w+"; Essential: yes; Recommends: cc; Provides: its"), there(mine), mine)
			wantAll(t, pkgs("aa 2", "aa "+w, "aa 0", "bb "+w), there(mine), pkg("aa 2"), mine, pkg("aa 0"), pkg("bb "+w))
			wantAll(t, pkgs("aa 2; Provides: its", "aa "+w), there(pkg("aa 2"), pkg("bb "+w)), pkgs("aa 2", "aa "+w, "bb "+w)...)
		}
	}
}

// P12.1: of one name and other versions both stand, and one that is provided is no name of one's own.
func TestAllOthers(t *testing.T) {
	falling := pkgs("aa 1:1", "aa 2", "aa 1.0", "aa 1+", "aa 1-1", "aa 1", "aa 1~", "aa 0")
	for i, lesser := range falling {
		for _, greater := range falling[:i] {
			wantAll(t, []api.Package{lesser}, there(greater), greater, lesser)
			wantAll(t, []api.Package{greater}, there(lesser), greater, lesser)
		}
	}
	wantAll(t, pkgs("aa 1; Provides: bb (= 1)"), ents("+bb 1; Provides: aa (= 1)"), pkgs("aa 1; Provides: bb (= 1)", "bb 1; Provides: aa (= 1)")...)
}

// splits tells each way to have some of l there, of each name at most one, and the rest to be had.
func splits(l []api.Package) (repos [][]api.Package, states [][]api.Entry) {
	for chosen := range 1 << len(l) {
		var repo []api.Package
		var s []api.Entry
		for i, p := range l {
			if chosen>>i&1 > 0 {
				s = append(s, api.Entry{Pkg: p})
			} else {
				repo = append(repo, p)
			}
		}
		if record.MayEntries(s) == api.OK {
			repos, states = append(repos, repo), append(states, s)
		}
	}
	return repos, states
}

// P12.1: by name, and of one name by version, in whatever order packages were handed in, and wherever they come from.
func TestAllOrder(t *testing.T) {
	for _, want := range [][]api.Package{
		pkgs("0a 1", "a+ 1", "a- 1", "a. 1", "a0 1", "aa 1"),
		pkgs("aa 1", "aa+ 1", "aaa 1", "ab 1", "b0 1"),
		pkgs("aa 1:0", "aa 10", "aa 9", "aa 1-1", "aa 1", "aa 1~"),
		pkgs("aa 1.0+b1", "aa 1.0", "aa 1.0~rc1", "bb 2", "bb 1", "cc 3"),
		pkgs("aa 1; Provides: zz (= 9)", "bb 2; Provides: aa (= 7)", "bb 1; Provides: bb (= 9)", "cc 1", "zz 1; Conflicts: aa"),
	} {
		repos, states := splits(want)
		for i, repo := range repos {
			for _, l := range orders(repo) {
				wantAll(t, l, states[i], want...)
			}
		}
	}
}

// P12.1: as many packages as may be together, and one more, where neither repo nor entries alone are too many.
func TestAllManyPackages(t *testing.T) {
	most := versions("aa", 50, api.MaxPackages)
	wantAll(t, most, nil, most...)
	wantAll(t, most[1:], there(most[0]), most...)
	wantAll(t, most[:23], there(most[23]), most...)
	// What is there anyway makes them no more.
	wantAll(t, most, there(most[7]), most...)
	wantRefused(t, api.ErrMany, most, ents("+aa 1"))
	wantRefused(t, api.ErrMany, most, ents("-aa 99"))
	wantRefused(t, api.ErrMany, most, ents("-aa 50", "+bb 1"))
	wantRefused(t, api.ErrMany, most[3:], ents("+aa 50", "+ab 1", "+bb 1", "+cc 1"))
	wantAll(t, most[3:], ents("+aa 50", "+bb 1", "+cc 1"), slices.Concat(most[:1], most[3:], pkgs("bb 1", "cc 1"))...)
}

// P12.1: as many names as may be together, and one more, where neither repo nor entries alone are too many.
func TestAllManyNames(t *testing.T) {
	most := row(0, api.MaxNames)
	for n := range api.MaxNames + 1 {
		wantAll(t, most[:n], there(most[n:]...), most...)
		wantAll(t, most[n:], there(most[:n]...), most...)
		wantAll(t, most[n:], there(most...), most...)
		wantAll(t, most, there(most[n:]...), most...)
		more := row(n, api.MaxNames)
		if n > 0 {
			wantRefused(t, api.ErrMany, most, there(more[api.MaxNames-1]))
			wantRefused(t, api.ErrMany, most[:n], there(more...))
			wantRefused(t, api.ErrMany, more, there(most...))
		}
	}
	var others []api.Entry
	var all []api.Package
	for _, p := range most {
		q := p
		q.Version = "2"
		others = append(others, api.Entry{Pkg: q})
		all = append(all, q, p)
	}
	wantAll(t, most, others, all...)
}

// badRepos tells lists that may not be packages.
func badRepos() [][]api.Package {
	clauses := pkg("aa 1")
	clauses.Depends = many(api.MaxClauses+1, api.Clause{{Name: "bb"}})
	empty := pkg("aa 1")
	empty.Recommends = []api.Clause{{}}
	atom := pkg("aa 1")
	atom.Breaks = []api.Atom{{Name: "bb", Rel: 9, Version: "1"}}
	return [][]api.Package{
		{{}}, {{Name: "a", Version: "1"}}, {{Name: "aa"}}, {{Name: "aa", Version: "x"}}, {pkg("bb 1"), empty}, {atom}, {clauses},
		pkgs("aa 1", "aa 1"), pkgs("aa 1", "bb 1", "aa 01"), row(0, api.MaxNames+1), versions("aa", 50, api.MaxPackages+1), many(1000, pkg("aa 1")),
		slices.Concat(row(0, api.MaxNames+1), pkgs("p100 01")),
	}
}

// badStates tells lists that may not be entries.
func badStates() [][]api.Entry {
	l := [][]api.Entry{ents("+aa 1", "-aa 2"), ents("-bb 1", "+aa 1"), ents("+aa 1", "+cc 1", "+bb 1"), there(row(0, api.MaxNames+1)...)}
	for _, repo := range badRepos() {
		if record.MayEntries(there(repo...)) != api.OK {
			l = append(l, there(repo...))
		}
	}
	return l
}

// P12.1, P12.2: a repo that may not be, entries that may not be, both: repo's error goes ahead.
func TestRefused(t *testing.T) {
	if len(badRepos()) != 13 || len(badStates()) != 17 {
		t.Fatalf("%d, %d", len(badRepos()), len(badStates()))
	}
	for _, repo := range badRepos() {
		e := record.MayAll(repo)
		if e == api.OK {
			t.Fatalf("packages: %s", show(repo))
		}
		for _, s := range append(badStates(), nil, ents("+aa 1", "-bb 2"), there(row(20, api.MaxNames)...)) {
			wantRefused(t, e, repo, s)
		}
	}
	for _, s := range badStates() {
		e := record.MayEntries(s)
		for _, repo := range [][]api.Package{nil, pkgs("aa 1", "bb 2"), row(20, api.MaxNames), versions("aa", 50, api.MaxPackages)} {
			wantRefused(t, e, repo, s)
		}
	}
}

// P12.1: which error is told, by its number.
func TestRefusedErrors(t *testing.T) {
	wantRefused(t, api.ErrTwice, pkgs("aa 1", "aa 01"), nil)
	wantRefused(t, api.ErrTwice, pkgs("aa 1", "aa 01"), []api.Entry{{}})
	wantRefused(t, api.ErrForm, []api.Package{{}}, ents("+bb 1", "+aa 1"))
	wantRefused(t, api.ErrForm, pkgs("aa 1"), []api.Entry{{}})
	wantRefused(t, api.ErrTwice, nil, ents("+bb 1", "+aa 1"))
	wantRefused(t, api.ErrTwice, row(0, api.MaxNames), ents("+bb 1", "+aa 1"))
	wantRefused(t, api.ErrForm, versions("aa", 50, api.MaxPackages), []api.Entry{ent("+aa 1"), {}})
	wantRefused(t, api.ErrMany, pkgs("aa 1"), many(api.MaxNames+1, api.Entry{}))
	wantRefused(t, api.ErrMany, many(api.MaxPackages+1, api.Package{}), ents("+bb 1", "+aa 1"))
}
