package state

import (
	"slices"
	"testing"

	"chandler/api"
)

// P11.1: packages of which each has what it needs, itself too.
func TestHealthyMet(t *testing.T) {
	wantHealthy(t, true)
	wantHealthy(t, true, []api.Package{}...)
	wantHealthy(t, true, pkg("aa 1"))
	for _, field := range []string{"Depends", "Pre-Depends"} {
		wantHealthy(t, true, pkg("aa 1; "+field+": aa"))
		wantHealthy(t, true, pkg("aa 1; "+field+": aa (<= 1)"))
		wantHealthy(t, true, pkg("aa 1; "+field+": vv (= 2) | zz; Provides: vv (= 2)"))
		wantHealthy(t, true, pkgs("aa 1; "+field+": bb", "bb 1")...)
		wantHealthy(t, true, pkgs("aa 1; "+field+": zz | bb (>= 1), cc", "bb 1; "+field+": aa", "cc 1; "+field+": vv", "dd 1; Provides: vv")...)
		wantHealthy(t, false, pkg("aa 1; "+field+": bb"))
		wantHealthy(t, false, pkg("aa 1; "+field+": aa (>> 1)"))
		wantHealthy(t, false, pkgs("aa 1; "+field+": bb (= 2)", "bb 1")...)
		wantHealthy(t, false, pkgs("aa 1; "+field+": bb, cc", "bb 1")...)
		wantHealthy(t, false, pkgs("aa 1; "+field+": bb, cc", "cc 1")...)
		wantHealthy(t, false, pkgs("aa 1; "+field+": vv (= 1)", "bb 1; Provides: vv")...)
		wantHealthy(t, false, pkgs("aa 1", "bb 1; "+field+": zz")...)
	}
	wantHealthy(t, true, pkgs("aa 1; Recommends: zz; Essential: yes", "bb 1; Recommends: aa (>> 1)")...)
}

// P11.1: packages of which one is against another; none is against itself.
func TestHealthyAgainst(t *testing.T) {
	for _, field := range []string{"Conflicts", "Breaks"} {
		wantHealthy(t, true, pkg("aa 1; "+field+": aa"))
		wantHealthy(t, true, pkgs("aa 1; "+field+": aa, zz, vv, bb (>> 1); Provides: vv", "bb 1")...)
		wantHealthy(t, false, pkgs("aa 1; "+field+": bb", "bb 1")...)
		wantHealthy(t, false, pkgs("aa 1; "+field+": zz, bb (<= 1)", "bb 1")...)
		wantHealthy(t, false, pkgs("aa 1; "+field+": vv; Provides: vv", "bb 1; Provides: vv")...)
		wantHealthy(t, false, pkgs("aa 1; "+field+": bb; Depends: bb", "bb 1", "cc 1")...)
	}
}

// P11.1: a name that stands twice makes no whole, be it of one version or of others.
func TestHealthyTwice(t *testing.T) {
	wantHealthy(t, false, many(2, pkg("aa 1"))...)
	wantHealthy(t, false, pkgs("aa 1", "aa 2")...)
	wantHealthy(t, false, pkgs("aa 1", "bb 1", "aa 1:0")...)
	wantHealthy(t, false, pkgs("aa 1", "bb 1", "cc 1", "bb 2")...)
	wantHealthy(t, true, pkgs("aa 1", "aaa 1", "aa+ 1", "aa1 1")...)
}

// P11.1: each has to be one that may be, even if nobody asks for what it has.
func TestHealthyMay(t *testing.T) {
	for _, p := range []api.Package{
		{}, {Name: "aa"}, {Version: "1"}, {Name: "a", Version: "1"}, {Name: "Aa", Version: "1"}, {Name: "aa", Version: "x"}, {Name: "aa", Version: "1-"},
		{Name: "aa", Version: "1", Depends: []api.Clause{{{Name: "aa"}, {Name: "a"}}}},
		{Name: "aa", Version: "1", PreDepends: many(api.MaxClauses+1, api.Clause{{Name: "aa"}})},
		{Name: "aa", Version: "1", Depends: []api.Clause{many(api.MaxAtoms+1, api.Atom{Name: "aa"})}},
		{Name: "aa", Version: "1", Recommends: []api.Clause{{}}},
		{Name: "aa", Version: "1", Conflicts: []api.Atom{{}}},
		{Name: "aa", Version: "1", Breaks: []api.Atom{{Name: "bb", Rel: api.REq}}},
		{Name: "aa", Version: "1", Provides: []api.Provide{{Name: "bb", Version: "x"}}},
	} {
		wantHealthy(t, false, p)
		wantHealthy(t, false, p, pkg("bb 1"))
	}
	p := pkg("aa 1")
	p.Depends = many(api.MaxClauses, api.Clause(many(api.MaxAtoms, api.Atom{Name: "aa"})))
	wantHealthy(t, true, p, pkg("bb 1"))
}

// P11.1: a whole has any number of packages; no limit is asked for but that each may be.
func TestHealthyMany(t *testing.T) {
	for _, n := range []int{api.MaxNames, api.MaxNames + 1, api.MaxPackages, api.MaxPackages + 1, 2000} {
		l := named(n)
		slices.Reverse(l)
		l[0].Depends = []api.Clause{{{Name: "p10000"}}}
		wantHealthy(t, true, l...)
		wantHealthy(t, false, append(l, l[n/2])...)
		wantHealthy(t, false, l[:n-1]...)
		l[n-1].Breaks = []api.Atom{{Name: l[0].Name}}
		wantHealthy(t, false, l...)
	}
}
