package index

import (
	"testing"

	"chandler/api"
)

// P10.1: packages that clash by Conflicts or by Breaks, from either side, at the versions that these name.
func TestClashNamed(t *testing.T) {
	for _, field := range []string{"Conflicts", "Breaks"} {
		wantClash(t, pkg("aa 1; "+field+": bb"), pkg("bb 1"), true)
		wantClash(t, pkg("aa 1; "+field+": cc, bb (= 1)"), pkg("bb 1"), true)
		wantClash(t, pkg("aa 1; "+field+": bb (= 2), cc"), pkg("bb 1"), false)
		wantClash(t, pkg("aa 1; "+field+": cc"), pkg("bb 1"), false)
		wantClash(t, pkg("aa 1; "+field+": bb"), pkg("bb 1; "+field+": aa"), true)
		wantClash(t, pkg("aa 1; "+field+": bb (= 2)"), pkg("bb 1; "+field+": aa (= 2)"), false)
		for sign, holds := range signs() {
			for i, l := range around() {
				for _, v := range l {
					wantClash(t, pkg("aa 2; "+field+": bb ("+sign+" 2)"), pkg("bb "+v), holds[i])
				}
			}
		}
	}
	wantClash(t, pkg("aa 1"), pkg("bb 1"), false)
	wantClash(t, pkg("aa 1; Conflicts: cc; Breaks: bb"), pkg("bb 1"), true)
	wantClash(t, pkg("aa 1; Conflicts: bb; Breaks: cc"), pkg("bb 1"), true)
	wantClash(t, pkg("aa 1; Conflicts: cc"), pkg("bb 1; Breaks: aa"), true)
}

// P10.1: no other field makes packages clash.
func TestClashOtherFields(t *testing.T) {
	p := pkg("aa 1; Essential: yes; Pre-Depends: bb; Depends: bb; Recommends: bb; Provides: bb, cc")
	wantClash(t, p, pkg("bb 1"), false)
	wantClash(t, p, pkg("bb 1; Essential: yes; Pre-Depends: aa; Depends: cc; Recommends: aa; Provides: aa, cc"), false)
}

// P10.1: a Provide of the other one counts, a Provide of its own does not.
func TestClashProvided(t *testing.T) {
	for _, field := range []string{"Conflicts", "Breaks"} {
		wantClash(t, pkg("aa 1; "+field+": vv"), pkg("bb 1; Provides: vv"), true)
		wantClash(t, pkg("aa 1; "+field+": vv; Provides: vv"), pkg("bb 1; Provides: vv"), true)
		wantClash(t, pkg("aa 1; "+field+": vv; Provides: vv"), pkg("bb 1"), false)
		wantClash(t, pkg("aa 1; "+field+": vv (= 1)"), pkg("bb 1; Provides: vv"), false)
		wantClash(t, pkg("aa 1; "+field+": vv (= 1)"), pkg("bb 2; Provides: vv (= 1)"), true)
		wantClash(t, pkg("aa 1; "+field+": vv (>> 1)"), pkg("bb 2; Provides: vv (= 1)"), false)
		wantClash(t, pkg("aa 1; "+field+": aa"), pkg("bb 1; Provides: aa"), true)
		wantClash(t, pkg("aa 1; "+field+": aa"), pkg("bb 1"), false)
		wantClash(t, pkg("aa 1; "+field+": bb (>= 3)"), pkg("bb 1; Provides: bb (= 3)"), true)
	}
}

// P10.1: two of one name never clash, nor does a package with itself.
func TestClashOneName(t *testing.T) {
	for _, field := range []string{"Conflicts", "Breaks"} {
		p := pkg("aa 1; " + field + ": aa, vv; Provides: vv")
		wantClash(t, p, p, false)
		wantClash(t, p, pkg("aa 2"), false)
		wantClash(t, p, pkg("aa 2; Provides: vv"), false)
		wantClash(t, p, pkg("aa 2; "+field+": aa, vv; Provides: vv"), false)
	}
}

// P10.1: an atom that may not be makes nothing clash; packages that may not be are asked as they stand.
func TestClashBad(t *testing.T) {
	q := pkg("bb 1; Provides: bb, bb (= 1)")
	for _, a := range badAtoms("bb", "1") {
		wantClash(t, api.Package{Name: "aa", Version: "1", Conflicts: []api.Atom{a}}, q, false)
		wantClash(t, api.Package{Name: "aa", Version: "1", Breaks: []api.Atom{a, a}}, q, false)
		wantClash(t, api.Package{Name: "aa", Version: "1", Breaks: []api.Atom{a, {Name: "bb"}}}, q, true)
	}
	against := []api.Atom{{Name: "bb"}}
	wantClash(t, api.Package{}, api.Package{}, false)
	wantClash(t, api.Package{Conflicts: against}, q, true)
	wantClash(t, api.Package{Conflicts: against}, api.Package{Name: "bb"}, false)
	wantClash(t, api.Package{Conflicts: against}, api.Package{Name: "a", Provides: []api.Provide{{Name: "bb", Version: "x"}}}, true)
	wantClash(t, api.Package{Conflicts: against}, api.Package{Provides: []api.Provide{{Name: "bb"}}}, false)
	wantClash(t, api.Package{Name: "aa", Breaks: append(many(1000, api.Atom{}), against...)}, q, true)
}
