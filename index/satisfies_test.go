package index

import (
	"strings"
	"testing"

	"chandler/api"
)

// signs tells, of each relation's sign, what stands so to a version: what is below it, the same, above it.
func signs() map[string][3]bool {
	return map[string][3]bool{
		"<<": {true, false, false},
		"<=": {true, true, false},
		"=":  {false, true, false},
		">=": {false, true, true},
		">>": {false, false, true},
	}
}

// around tells versions just below 2, the same, and just above.
func around() [3][]string {
	return [3][]string{{"2~", "1.9", "0:2~~", "1", "0"}, {"2", "02", "0:2", "2-0", "00:2-00"}, {"2-0a", "2+", "2.0", "3", "1:0"}}
}

// badAtoms tells atoms that may not be, which are of that name, or nearly; the version is one.
func badAtoms(name, v string) []api.Atom {
	return []api.Atom{
		{}, {Name: name, Version: v}, {Name: name, Rel: api.REq}, {Name: name, Rel: api.RGe, Version: ""}, {Name: name, Rel: 6, Version: v}, {Name: name, Rel: -1, Version: v},
		{Name: name, Rel: 9, Version: v}, {Name: name, Rel: 1 << 62, Version: v}, {Name: name, Rel: -1 << 63, Version: v}, {Name: name, Rel: api.RGe, Version: "x"},
		{Name: name, Rel: api.RGe, Version: "1-"}, {Name: name, Rel: api.RLe, Version: strings.Repeat("9", api.MaxVersion+1)}, {Name: name, Version: "x"}, {Rel: api.RGe, Version: v},
		{Name: name, Rel: 6}, {Name: name, Rel: -1},
	}
}

// P10.1: the package's own name, with each relation, just below, at and just above the version.
func TestSatisfiesItself(t *testing.T) {
	for sign, holds := range signs() {
		for i, l := range around() {
			for _, v := range l {
				wantSatisfies(t, pkg("aa "+v), atom("aa ("+sign+" 2)"), holds[i])
				wantSatisfies(t, pkg("aa "+v), atom("aa"), true)
				wantSatisfies(t, pkg("aa "+v), atom("bb ("+sign+" 2)"), false)
				wantSatisfies(t, pkg("aa "+v), atom("bb"), false)
			}
		}
	}
	wantSatisfies(t, pkg("aa 1"), atom("aaa"), false)
	wantSatisfies(t, pkg("aaa 1"), atom("aa"), false)
	wantSatisfies(t, pkg("aa 1; Depends: bb; Recommends: cc; Pre-Depends: dd; Conflicts: ee; Breaks: ff"), atom("bb"), false)
	wantSatisfies(t, pkg("aa 1; Depends: bb; Recommends: cc; Pre-Depends: dd; Conflicts: ee; Breaks: ff"), atom("ee"), false)
}

// P10.1: a Provide alone: with a version at each relation, and without one, which meets only what asks for none.
func TestSatisfiesProvided(t *testing.T) {
	for sign, holds := range signs() {
		a := atom("aa (" + sign + " 2)")
		for i, l := range around() {
			for _, v := range l {
				p := pkg("bb 2; Provides: aa (= " + v + ")")
				wantSatisfies(t, p, a, holds[i])
				wantSatisfies(t, p, atom("aa"), true)
				wantSatisfies(t, p, atom("cc ("+sign+" 2)"), false)
				wantSatisfies(t, pkg("bb "+v+"; Provides: aa"), a, false)
			}
		}
	}
	wantSatisfies(t, pkg("bb 2; Provides: aa"), atom("aa"), true)
	wantSatisfies(t, pkg("bb 2; Provides: aa"), atom("aa (>= 0)"), false)
	wantSatisfies(t, pkg("bb 2; Provides: aa"), atom("cc"), false)
	wantSatisfies(t, pkg("bb 2; Provides: aaa"), atom("aa"), false)
}

// P10.1: of several Provides any one meets the atom, be it the first, the last, or one of many of that name.
func TestSatisfiesOneOfMany(t *testing.T) {
	p := pkg("bb 5; Provides: cc (= 1), aa, aa (= 1), aa (= 3), dd")
	for s, want := range map[string]bool{
		"aa": true, "aa (= 1)": true, "aa (= 2)": false, "aa (= 3)": true, "aa (= 5)": false, "aa (>> 3)": false, "aa (<< 1)": false, "aa (>> 1)": true, "cc": true, "cc (= 1)": true,
		"cc (= 3)": false, "dd": true, "dd (= 5)": false, "bb": true, "bb (= 5)": true, "bb (= 1)": false, "ee": false,
	} {
		wantSatisfies(t, p, atom(s), want)
	}
}

// P10.1: a Provide of the package's own name stands beside its own version.
func TestSatisfiesOwnProvided(t *testing.T) {
	p := pkg("aa 1; Provides: aa (= 3)")
	for s, want := range map[string]bool{"aa": true, "aa (= 1)": true, "aa (= 3)": true, "aa (= 2)": false, "aa (>= 2)": true, "aa (<< 2)": true, "aa (>> 3)": false, "aa (<< 1)": false} {
		wantSatisfies(t, p, atom(s), want)
	}
	p = pkg("aa 1; Provides: aa")
	for s, want := range map[string]bool{"aa": true, "aa (= 1)": true, "aa (>> 1)": false, "aa (<< 1)": false} {
		wantSatisfies(t, p, atom(s), want)
	}
}

// P10.1: an atom that may not be is met by none, even by what would meet it else.
func TestSatisfiesBadAtoms(t *testing.T) {
	for _, p := range pkgs("aa 1", "bb 1; Provides: aa", "bb 1; Provides: aa (= 1)", "aa 1; Provides: aa (= 1), aa") {
		for _, a := range badAtoms("aa", "1") {
			wantSatisfies(t, p, a, false)
		}
	}
	for _, name := range []string{"", "a", "Aa", "a_a", "-aa", "\xff\xff", "aa ", "aa\n", strings.Repeat("a", api.MaxName+1)} {
		for _, a := range []api.Atom{{Name: name}, {Name: name, Rel: api.REq, Version: "1"}, {Name: name, Rel: api.RLe, Version: "1"}} {
			wantSatisfies(t, api.Package{Name: name, Version: "1"}, a, false)
			wantSatisfies(t, api.Package{Name: "bb", Version: "1", Provides: []api.Provide{{Name: name}, {Name: name, Version: "1"}}}, a, false)
		}
	}
}

// P10.1: a package that may not be is asked as it stands.
func TestSatisfiesBadPackages(t *testing.T) {
	for _, s := range []string{"aa", "aa (>= 1)", "aa (= 1)", "aa (<< 1)"} {
		a := atom(s)
		wantSatisfies(t, api.Package{}, a, false)
		wantSatisfies(t, api.Package{Version: "1"}, a, false)
		wantSatisfies(t, api.Package{Name: "aa"}, a, false)
		wantSatisfies(t, api.Package{Name: "aa", Version: "x"}, a, false)
		wantSatisfies(t, api.Package{Name: "aa", Version: strings.Repeat("1", api.MaxVersion+1)}, a, false)
		wantSatisfies(t, api.Package{Provides: []api.Provide{{}, {Version: "1"}, {Name: "Aa", Version: "1"}}}, a, false)
		wantSatisfies(t, api.Package{Provides: []api.Provide{{Name: "aa", Version: "x"}}}, a, a.Rel == api.RAny)
		wantSatisfies(t, api.Package{Provides: []api.Provide{{Name: "aa"}}}, a, a.Rel == api.RAny)
		wantSatisfies(t, api.Package{Name: "aa", Version: "x", Provides: append(many(1000, api.Provide{}), api.Provide{Name: "aa", Version: "1"})}, a, a.Rel != api.RLt)
	}
}
