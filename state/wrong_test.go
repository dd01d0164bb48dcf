package state

import (
	"strings"
	"testing"

	"chandler/api"
)

// badAtoms tells atoms that may not be, of that name, or nearly.
func badAtoms(name string) []api.Atom {
	return []api.Atom{
		{}, {Name: name, Version: "1"}, {Name: name, Rel: api.REq}, {Name: name, Rel: api.RGt + 1, Version: "1"}, {Name: name, Rel: -1, Version: "1"},
		{Name: name, Rel: api.RGe, Version: "x"}, {Rel: api.RGe, Version: "1"}, {Name: name, Rel: api.RGe, Version: strings.Repeat("0", api.MaxVersion+1)},
	}
}

// P11.2: the document's example.
func TestExample(t *testing.T) {
	wantWrong(t, "aa Depends 0", ents("+aa 1; Depends: bb", "-bb 1")...)
}

// P11.2: of no entries, and of such as ask for nothing, nothing is wrong.
func TestWrongNothing(t *testing.T) {
	wantWrong(t, "")
	wantWrong(t, "", []api.Entry{}...)
	wantWrong(t, "", ents("+aa 1", "-bb 1", "+!cc 1", "-!dd 1")...)
	wantWrong(t, "", ents("+aa 1; Essential: yes; Recommends: zz | bb (>> 1); Provides: bb, aa (= 2)", "+bb 1", "-cc 1; Recommends: cc")...)
}

// P11.2: what a configured one depends on has to be configured; what an unpacked one depends on is not asked for.
func TestWrongDepends(t *testing.T) {
	wantWrong(t, "aa Depends 0", ent("+aa 1; Depends: bb"))
	wantWrong(t, "", ents("+aa 1; Depends: bb", "+bb 1")...)
	wantWrong(t, "", ents("+bb 1", "+cc 1; Depends: bb")...)
	wantWrong(t, "cc Depends 0", ents("-bb 1", "+cc 1; Depends: bb")...)
	wantWrong(t, "", ent("-aa 1; Depends: bb"))
	wantWrong(t, "", ents("-aa 1; Depends: bb, zz (= 3)", "-bb 1")...)
	wantWrong(t, "", ents("-aa 1; Depends: aa")...)
	// Holds make no difference.
	wantWrong(t, "aa Depends 0", ents("+!aa 1; Depends: bb", "-!bb 1")...)
	wantWrong(t, "", ents("+!aa 1; Depends: bb", "+!bb 1")...)
	wantWrong(t, "", ents("-!aa 1; Depends: bb")...)
}

// P11.2: what is depended on ahead of unpacking has to be configured, even for one that is only unpacked.
func TestWrongPreDepends(t *testing.T) {
	for _, sign := range []string{"+", "-", "+!", "-!"} {
		wantWrong(t, "aa Pre-Depends 0", ent(sign+"aa 1; Pre-Depends: bb"))
		wantWrong(t, "", ents(sign+"aa 1; Pre-Depends: bb", "+bb 1")...)
		wantWrong(t, "", ents("+bb 1", sign+"cc 1; Pre-Depends: bb")...)
		wantWrong(t, "aa Pre-Depends 0", ents(sign+"aa 1; Pre-Depends: bb", "-bb 1")...)
		wantWrong(t, "aa Pre-Depends 1; aa Pre-Depends 3", ents(sign+"aa 1; Pre-Depends: bb, cc, bb | cc, dd", "+bb 1", "-cc 1")...)
	}
}

// P11.2: a clause is met by the entry itself, if that is configured.
func TestWrongItself(t *testing.T) {
	wantWrong(t, "", ent("+aa 1; Depends: aa; Pre-Depends: aa (= 1)"))
	wantWrong(t, "aa Pre-Depends 0", ent("-aa 1; Depends: aa; Pre-Depends: aa (= 1)"))
	wantWrong(t, "", ent("+aa 1; Depends: vv; Pre-Depends: vv (= 2); Provides: vv (= 2)"))
	wantWrong(t, "aa Pre-Depends 0", ent("-aa 1; Depends: vv; Pre-Depends: vv (= 2); Provides: vv (= 2)"))
	wantWrong(t, "aa Pre-Depends 0; aa Depends 0", ent("+aa 1; Depends: aa (>> 1); Pre-Depends: aa (<< 1)"))
}

// P11.2: a clause is met by any one of its atoms, by any one configured entry, as index.Satisfies has it.
func TestWrongClauses(t *testing.T) {
	for _, field := range []string{"Depends", "Pre-Depends"} {
		x := func(relation string) api.Entry { return ent("+aa 1; " + field + ": " + relation) }
		for _, met := range []string{"bb", "zz | bb", "bb | zz", "cc | bb", "zz | yy | bb (= 2)", "bb (>= 2)", "bb (>= 3) | bb (<= 2)", "vv", "vv (= 5)", "ww", "ww | vv (= 6)"} {
			wantWrong(t, "", append(ents("+bb 2; Provides: vv (= 5), ww", "-cc 1"), x(met))...)
			wantWrong(t, "", append([]api.Entry{x(met)}, ents("-cc 1", "+bb 2; Provides: vv (= 5), ww")...)...)
		}
		for _, unmet := range []string{"zz", "cc", "cc | zz", "zz | cc | yy", "bb (>> 2)", "bb (<< 2) | cc", "vv (= 2)", "ww (= 2)", "cc (= 1) | vv (>> 5)", "pp", "pp (= 7)"} {
			wantWrong(t, "aa "+field+" 0", append(ents("+bb 2; Provides: vv (= 5), ww", "-cc 1; Provides: pp (= 7)"), x(unmet))...)
		}
		wantWrong(t, "aa "+field+" 1; aa "+field+" 2; aa "+field+" 4", append(ents("+bb 2", "-cc 1"), x("bb, zz, cc | yy, zz | bb, zz"))...)
	}
}

// P11.2: a clash by Conflicts is with any other entry, unpacked or configured, from either.
func TestWrongConflicts(t *testing.T) {
	for _, a := range []string{"+", "-", "+!", "-!"} {
		for _, b := range []string{"+", "-", "+!", "-!"} {
			wantWrong(t, "aa Conflicts 0 bb", ents(a+"aa 1; Conflicts: bb", b+"bb 1")...)
			wantWrong(t, "bb Conflicts 0 aa", ents(a+"aa 1", b+"bb 1; Conflicts: aa")...)
			wantWrong(t, "aa Conflicts 0 bb; bb Conflicts 0 aa", ents(a+"aa 1; Conflicts: bb", b+"bb 1; Conflicts: aa")...)
			wantWrong(t, "aa Conflicts 1 bb; aa Conflicts 3 bb", ents(a+"aa 1; Conflicts: zz, bb, bb (>> 1), vv (= 3)", b+"bb 1; Provides: vv (= 3)")...)
			wantWrong(t, "", ents(a+"aa 1; Conflicts: zz, bb (= 2), aa", b+"bb 1")...)
		}
	}
	wantWrong(t, "", ent("+aa 1; Conflicts: aa, vv; Provides: vv"))
	wantWrong(t, "aa Conflicts 0 bb; aa Conflicts 0 cc", ents("+aa 1; Conflicts: vv; Provides: vv", "-bb 1; Provides: vv", "+cc 1; Provides: vv (= 1)")...)
}

// P11.2: a clash by Breaks is with any other entry that is configured, whatever the one that breaks is.
func TestWrongBreaks(t *testing.T) {
	for _, a := range []string{"+", "-", "+!", "-!"} {
		for _, b := range []string{"+", "+!"} {
			wantWrong(t, "aa Breaks 0 bb", ents(a+"aa 1; Breaks: bb", b+"bb 1")...)
			wantWrong(t, "bb Breaks 0 aa", ents(b+"aa 1", a+"bb 1; Breaks: aa")...)
			wantWrong(t, "aa Breaks 1 bb; aa Breaks 3 bb", ents(a+"aa 1; Breaks: zz, bb, bb (>> 1), vv (= 3)", b+"bb 1; Provides: vv (= 3)")...)
			wantWrong(t, "", ents(a+"aa 1; Breaks: zz, bb (= 2), aa", b+"bb 1")...)
		}
		for _, b := range []string{"-", "-!"} {
			wantWrong(t, "", ents(a+"aa 1; Breaks: bb, vv", b+"bb 1; Provides: vv")...)
			wantWrong(t, "", ents(b+"aa 1", a+"bb 1; Breaks: aa")...)
		}
	}
	wantWrong(t, "", ent("+aa 1; Breaks: aa, vv; Provides: vv"))
	wantWrong(t, "aa Breaks 0 cc", ents("+aa 1; Breaks: vv; Provides: vv", "-bb 1; Provides: vv", "+cc 1; Provides: vv (= 1)")...)
}

// P11.2: entry by entry as they stand; of each Pre-Depends, Depends, Conflicts, Breaks; of each clash atom by atom, and the others as they stand.
func TestWrongOrder(t *testing.T) {
	all := "; Breaks: vv, ww; Conflicts: ww, vv; Depends: xx, yy; Pre-Depends: zz, yy; Provides: vv, ww"
	wantWrong(t, "cc Pre-Depends 0; cc Pre-Depends 1; cc Depends 0; cc Depends 1; "+
		"cc Conflicts 0 aa; cc Conflicts 0 bb; cc Conflicts 1 aa; cc Conflicts 1 bb; cc Breaks 0 bb; cc Breaks 1 bb; "+
		"aa Pre-Depends 0; aa Pre-Depends 1; "+
		"aa Conflicts 0 cc; aa Conflicts 0 bb; aa Conflicts 1 cc; aa Conflicts 1 bb; aa Breaks 0 cc; aa Breaks 0 bb; aa Breaks 1 cc; aa Breaks 1 bb; "+
		"bb Pre-Depends 0; bb Pre-Depends 1; bb Depends 0; bb Depends 1; "+
		"bb Conflicts 0 cc; bb Conflicts 0 aa; bb Conflicts 1 cc; bb Conflicts 1 aa; bb Breaks 0 cc; bb Breaks 1 cc",
		ents("+cc 1"+all, "-aa 1"+all, "+bb 1"+all)...)
}

// P11.2: entries are taken as they are: of one name there may be several, and each is another one to the rest.
func TestWrongOneName(t *testing.T) {
	wantWrong(t, "aa Conflicts 0 aa", ents("+aa 1; Conflicts: aa", "-aa 2")...)
	wantWrong(t, "aa Conflicts 0 aa; aa Conflicts 0 aa", many(2, ent("-aa 1; Conflicts: aa"))...)
	wantWrong(t, "aa Breaks 0 aa", ents("-aa 1; Breaks: aa", "+aa 1; Breaks: aa")...)
	wantWrong(t, "", ents("-aa 1; Pre-Depends: aa", "+aa 1")...)
	wantWrong(t, "aa Depends 0; aa Depends 0", ents("+aa 1; Depends: bb", "+aa 2; Depends: bb", "-aa 3; Depends: bb")...)
}

// P11.2: entries are taken as they are: what may not be is asked as it stands; a clause without atoms, and atoms that may not be, are met by none.
func TestWrongBad(t *testing.T) {
	wantWrong(t, "", api.Entry{}, api.Entry{Configured: true})
	bb := ent("+bb 1; Provides: bb (= 1), bb")
	x := api.Entry{Configured: true}
	x.Pkg = api.Package{Name: "x", PreDepends: []api.Clause{{}, {{Name: "bb"}}, nil}, Depends: []api.Clause{nil, {{Name: "bb"}}}}
	wantWrong(t, "x Pre-Depends 0; x Pre-Depends 2; x Depends 0", x, bb)
	wantWrong(t, "x Depends 12", api.Entry{Configured: true, Pkg: api.Package{Name: "x", Depends: append(many(12, api.Clause{{Name: "bb"}}), api.Clause{{Name: "zz"}})}}, bb)
	for _, a := range badAtoms("bb") {
		y := api.Entry{Configured: true, Pkg: api.Package{Name: "yy", Conflicts: []api.Atom{a, {Name: "bb"}}, Breaks: []api.Atom{a, a, {Name: "bb"}}}}
		y.Pkg.PreDepends = []api.Clause{{a}, {a, {Name: "bb"}}}
		y.Pkg.Depends = []api.Clause{{{Name: "bb"}, a}, {a, a}}
		wantWrong(t, "yy Pre-Depends 0; yy Depends 1; yy Conflicts 1 bb; yy Breaks 2 bb", y, bb)
	}
	wantWrong(t, "x Conflicts 0 A; x Breaks 0 A", api.Entry{Pkg: api.Package{Name: "x", Conflicts: []api.Atom{{Name: "vv"}}, Breaks: []api.Atom{{Name: "vv"}}}}, api.Entry{Configured: true, Pkg: api.Package{Name: "A", Provides: []api.Provide{{Name: "vv"}}}})
}

// P11.2: any number of entries.
func TestWrongMany(t *testing.T) {
	l := configured(named(1000))
	l[999].Pkg.Conflicts = []api.Atom{{Name: "p10000"}}
	l[0].Pkg.Depends = []api.Clause{{{Name: "p10999"}}, {{Name: "zz"}}}
	wantWrong(t, "p10000 Depends 1; p10999 Conflicts 0 p10000", l...)
}

// P11.3: is each one of the others, whatever order they stand in, and however often.
func TestWithin(t *testing.T) {
	one, other, both := viols("aa Depends 0"), viols("bb Conflicts 1 aa"), viols("aa Depends 0; bb Conflicts 1 aa")
	for _, l := range [][]api.Violation{nil, {}, one, other, both, viols("bb Conflicts 1 aa; aa Depends 0")} {
		wantWithin(t, true, nil, l)
		wantWithin(t, true, []api.Violation{}, l)
		wantWithin(t, true, l, l)
		wantWithin(t, true, l, both)
		wantWithin(t, len(l) == 0, l, nil)
	}
	wantWithin(t, false, both, one)
	wantWithin(t, false, both, other)
	wantWithin(t, false, one, other)
	wantWithin(t, true, many(3, one[0]), one)
	wantWithin(t, true, one, many(3, one[0]))
	wantWithin(t, false, append(many(3, one[0]), other...), one)
}

// P11.3: violations that differ in one field are others.
func TestWithinFields(t *testing.T) {
	v := api.Violation{Kind: api.VConflicts, Name: "aa", I: 2, Other: "bb"}
	for _, turn := range []func(v *api.Violation){
		func(v *api.Violation) { v.Kind = api.VBreaks },
		func(v *api.Violation) { v.Name = "bb" },
		func(v *api.Violation) { v.Name = "" },
		func(v *api.Violation) { v.Pre = true },
		func(v *api.Violation) { v.I = 1 },
		func(v *api.Violation) { v.Other = "" },
		func(v *api.Violation) { v.Other = "bbb" },
	} {
		w := v
		turn(&w)
		wantWithin(t, false, []api.Violation{v}, []api.Violation{w})
		wantWithin(t, false, []api.Violation{w}, []api.Violation{v})
		wantWithin(t, true, []api.Violation{w}, []api.Violation{v, w})
		wantWithin(t, true, []api.Violation{w}, []api.Violation{w, v})
	}
}
