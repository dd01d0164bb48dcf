package universe

import (
	"slices"
	"strconv"
	"strings"
	"testing"

	"chandler/api"
)

// P12.2: the document's example.
func TestExample(t *testing.T) {
	wantOf(t, pkgs("aa 1; Depends: bb", "bb 1", "cc 1"), nil, "aa", "aa=1 bb=1")
}

// P12.2: from nowhere nothing is reached; from all names all is.
func TestOfNone(t *testing.T) {
	for _, s := range [][]api.Entry{nil, {}} {
		wantOf(t, nil, s, "", "")
		wantOf(t, nil, s, "aa", "")
		wantOf(t, pkgs("aa 1", "bb 1"), s, "", "")
		wantOf(t, pkgs("bb 1", "aa 1"), s, "bb aa", "aa=1 bb=1")
	}
}

// P12.2: names of which there are no packages reach nothing: those that are merely asked for, provided, or written otherwise, and those that are none.
func TestOfNamesWithoutPackages(t *testing.T) {
	repo := pkgs("aa 1; Depends: zz", "bb 1; Provides: vv", "cc 1")
	for _, name := range []string{"", "zz", "vv", "a", "AA", "Aa", "aa ", " aa", "aa=1", "aa 1", "aaa", "aa\x00", "\xff", "aa (= 1)", "aa|bb", strings.Repeat("aa", 100000)} {
		for _, names := range [][]string{{name}, {name, name}, {"cc", name}, {name, "cc", name}} {
			want := ""
			if slices.Contains(names, "cc") {
				want = "cc=1"
			}
			if got, e := Of(repo, nil, names); e != api.OK || short(got) != want {
				t.Errorf("Of(.., %.100q) = %q, %d; want %q", names, short(got), e, want)
			}
		}
	}
}

// P12.2: names may stand often, in any order, and as many as one likes.
func TestOfNames(t *testing.T) {
	repo := pkgs("cc 1", "bb 1; Depends: cc", "aa 1", "aa 2", "dd 1; Depends: aa (= 2)")
	for _, names := range orders([]string{"aa", "bb", "zz", "bb", "aa"}) {
		wantOf(t, repo, nil, strings.Join(names, " "), "aa=2 aa=1 bb=1 cc=1")
	}
	wantOf(t, repo, nil, "cc", "cc=1")
	wantOf(t, repo, nil, "dd", "aa=2 aa=1 dd=1")
	wantOf(t, repo, nil, strings.Repeat("bb zz ", 100000)+"aa", "aa=2 aa=1 bb=1 cc=1")
}

// P12.2: what is there is reached, whatever its state, and from it what it asks for, and what else is of its name.
func TestOfEntries(t *testing.T) {
	repo := pkgs("aa 2", "aa 3; Depends: dd", "bb 1; Depends: ee", "cc 1", "dd 1", "ee 1")
	for _, sign := range []string{"+", "-", "+!", "-!"} {
		wantOf(t, repo, ents(sign+"aa 1; Depends: bb"), "", "aa=3 aa=2 aa=1 bb=1 dd=1 ee=1")
		wantOf(t, repo, ents(sign+"aa 1; Depends: bb"), "cc", "aa=3 aa=2 aa=1 bb=1 cc=1 dd=1 ee=1")
		wantOf(t, repo, ents(sign+"bb 01", sign+"zz 1"), "", "bb=01 zz=1")
		wantOf(t, nil, ents(sign+"aa 1; Depends: bb", sign+"bb 1"), "", "aa=1 bb=1")
		wantOf(t, nil, ents(sign+"aa 1", sign+"bb 1"), "aa", "aa=1 bb=1")
	}
	// An entry can be reached from what is to be had, too.
	wantOf(t, pkgs("aa 1; Depends: bb (>= 2)", "bb 2; Depends: cc", "cc 1"), ents("+bb 1"), "", "bb=2 bb=1 cc=1")
}

// P12.2: where an entry stands for a package of repo, it is its fields that reach.
func TestOfEntryStands(t *testing.T) {
	repo := pkgs("aa 01; Depends: bb; Provides: vv", "bb 1", "cc 1", "dd 1; Depends: vv", "ee 1; Depends: ww")
	wantOf(t, repo, nil, "aa", "aa=01 bb=1")
	wantOf(t, repo, ents("+aa 1; Depends: cc; Provides: ww"), "", "aa=1 cc=1")
	wantOf(t, repo, ents("+aa 1"), "dd", "aa=1 dd=1")
	wantOf(t, append(repo, pkg("aa 2; Provides: xx")), ents("+ee 1; Depends: xx"), "", "aa=2 aa=01 bb=1 ee=1")
}

// P12.2: what meets an atom of Pre-Depends, Depends or Recommends is reached.
func TestOfFields(t *testing.T) {
	for _, field := range []string{"Pre-Depends", "Depends", "Recommends"} {
		asks := func(relation string) []api.Package {
			return pkgs("aa 1; "+field+": "+relation, "bb 2; Provides: vv, ww (= 3)", "bb 1", "cc 1; Provides: vv (= 5)", "dd 1")
		}
		for relation, want := range map[string]string{
			"aa":                   "aa=1",
			"zz":                   "aa=1",
			"cc":                   "aa=1 cc=1",
			"cc (= 01)":            "aa=1 cc=1",
			"cc (>> 1)":            "aa=1",
			"cc (<< 1)":            "aa=1",
			"cc, dd":               "aa=1 cc=1 dd=1",
			"cc | dd":              "aa=1 cc=1 dd=1",
			"zz | dd":              "aa=1 dd=1",
			"aa | dd":              "aa=1 dd=1",
			"zz, yy | xx, zz | dd": "aa=1 dd=1",
			"bb":                   "aa=1 bb=2 bb=1",
			"bb (= 1)":             "aa=1 bb=2 bb=1",
			"bb (>= 2)":            "aa=1 bb=2 bb=1",
			"bb (>> 2)":            "aa=1",
			"bb (>> 2) | cc":       "aa=1 cc=1",
			"vv":                   "aa=1 bb=2 bb=1 cc=1",
			"vv (= 5)":             "aa=1 cc=1",
			"vv (<< 5)":            "aa=1",
			"ww":                   "aa=1 bb=2 bb=1",
			"ww (>= 3)":            "aa=1 bb=2 bb=1",
			"ww (>> 3)":            "aa=1",
		} {
			wantOf(t, asks(relation), nil, "aa", want)
			wantOf(t, asks(relation)[1:], there(asks(relation)[0]), "", want)
			wantOf(t, asks(relation), nil, "dd", "dd=1")
		}
	}
	wantOf(t, pkgs("aa 1; Pre-Depends: bb; Depends: cc; Recommends: dd", "bb 1", "cc 1", "dd 1", "ee 1"), nil, "aa", "aa=1 bb=1 cc=1 dd=1")
}

// P12.2: an alternative is reached also where another package meets the clause already, be it there, asked for, or the one that asks.
func TestOfAlternatives(t *testing.T) {
	repo := pkgs("aa 1; Depends: bb | cc", "bb 1", "cc 1; Recommends: dd | aa", "dd 1", "ee 1")
	wantOf(t, repo, nil, "aa", "aa=1 bb=1 cc=1 dd=1")
	wantOf(t, repo, nil, "aa bb", "aa=1 bb=1 cc=1 dd=1")
	wantOf(t, repo, ents("+bb 1"), "aa", "aa=1 bb=1 cc=1 dd=1")
	wantOf(t, repo, ents("+aa 1; Depends: aa | vv | ee; Provides: vv", "+bb 1"), "", "aa=1 bb=1 ee=1")
	wantOf(t, pkgs("aa 1; Depends: vv", "bb 1; Provides: vv", "cc 1; Provides: vv", "dd 1; Provides: vv (= 1)"), ents("+bb 1; Provides: vv"), "aa", "aa=1 bb=1 cc=1 dd=1")
}

// P12.2: Conflicts, Breaks and Provides reach nothing, and what asks for one that is reached is not reached by that.
func TestOfReachesNothing(t *testing.T) {
	for _, field := range []string{"Conflicts: bb", "Breaks: bb", "Provides: bb", "Conflicts: bb (= 1)", "Breaks: bb (= 1)", "Provides: bb (= 1)", "Conflicts: vv, bb", "Breaks: vv, bb", "Essential: yes"} {
		repo := pkgs("aa 1; "+field, "bb 1; Provides: vv")
		wantOf(t, repo, nil, "aa", "aa=1")
		wantOf(t, repo, nil, "bb", "bb=1")
		wantOf(t, repo[1:], there(repo[0]), "", "aa=1")
	}
	for _, field := range []string{"Pre-Depends", "Depends", "Recommends"} {
		wantOf(t, pkgs("aa 1; "+field+": bb", "bb 1"), nil, "bb", "bb=1")
	}
	// That two clash keeps neither from being reached.
	wantOf(t, pkgs("aa 1; Depends: bb; Conflicts: bb", "bb 1; Breaks: aa; Depends: cc", "cc 1; Conflicts: aa"), nil, "aa", "aa=1 bb=1 cc=1")
	wantOf(t, pkgs("aa 1; Depends: bb", "bb 1; Depends: cc"), ents("+cc 1; Conflicts: aa, bb"), "aa", "aa=1 bb=1 cc=1")
}

// P12.2: all versions of a name of which one is reached, and what those ask for.
func TestOfVersions(t *testing.T) {
	repo := pkgs("aa 1; Depends: bb (= 2)", "bb 1; Depends: cc", "bb 2", "bb 3; Recommends: dd (>> 5)", "cc 1", "dd 6", "dd 5", "ee 1")
	wantOf(t, repo, nil, "aa", "aa=1 bb=3 bb=2 bb=1 cc=1 dd=6 dd=5")
	wantOf(t, repo, nil, "bb", "bb=3 bb=2 bb=1 cc=1 dd=6 dd=5")
	wantOf(t, repo, ents("+bb 4; Pre-Depends: ee"), "", "bb=4 bb=3 bb=2 bb=1 cc=1 dd=6 dd=5 ee=1")
	// One version provides it, and another one of that name asks for more.
	wantOf(t, pkgs("aa 1; Depends: vv", "bb 2; Provides: vv", "bb 1; Pre-Depends: cc", "cc 1", "dd 1"), nil, "aa", "aa=1 bb=2 bb=1 cc=1")
}

// P12.2: rings: each is reached from each, and once.
func TestOfRings(t *testing.T) {
	wantOf(t, pkgs("aa 1; Depends: aa; Pre-Depends: aa | bb (>> 1); Recommends: vv; Provides: vv", "bb 1"), nil, "aa", "aa=1")
	repo := pkgs("aa 1; Depends: bb", "bb 1; Pre-Depends: vv", "cc 1; Recommends: aa | dd; Provides: vv", "dd 1; Depends: bb (= 1)", "ee 1; Depends: aa")
	for _, name := range []string{"aa", "bb", "cc", "dd", "bb aa bb"} {
		wantOf(t, repo, nil, name, "aa=1 bb=1 cc=1 dd=1")
	}
	wantOf(t, repo, nil, "ee", "aa=1 bb=1 cc=1 dd=1 ee=1")
	wantOf(t, nil, ents("+aa 1; Depends: bb", "-bb 1; Depends: aa"), "bb", "aa=1 bb=1")
}

// chain tells packages of as many names as may be, each of which asks for the next one, by the field.
func chain(field string) []api.Package {
	l := row(0, api.MaxNames)
	for i := range len(l) - 1 {
		l[i] = pkg(l[i].Name + " 1; " + field + ": " + l[i+1].Name)
	}
	return l
}

// P12.2: a chain is gone through from where it is entered to its end, in whatever order it was handed in.
func TestOfChains(t *testing.T) {
	for _, field := range []string{"Pre-Depends", "Depends", "Recommends"} {
		l := chain(field)
		turned := slices.Clone(l)
		slices.Reverse(turned)
		for i, p := range l {
			wantOf(t, l, nil, p.Name, short(l[i:]))
			wantOf(t, turned, nil, p.Name, short(l[i:]))
			wantOf(t, slices.Delete(slices.Clone(l), i, i+1), there(p), "", short(l[i:]))
		}
	}
}

// P12.2: a chain that goes by other versions of names, as long as may be.
func TestOfLongChain(t *testing.T) {
	var repo []api.Package
	name := func(i int) string { return "p" + strconv.Itoa(100+i) }
	for i := range 8 {
		repo = append(repo, pkg(name(i)+" 1"), pkg(name(i)+" 3"), pkg(name(i)+" 2"))
		if i < 7 {
			repo[3*i] = pkg(name(i) + " 1; Recommends: zz | " + name(i+1) + " (>> 2)")
		}
	}
	all, _ := All(repo, nil)
	for i := range 8 {
		wantOf(t, repo, nil, name(i), short(all[3*i:]))
	}
}

// P12.2: what is reached stands in All's order, whatever the order in which it was handed in.
func TestOfOrder(t *testing.T) {
	for _, repo := range orders(pkgs("cc 1; Depends: bb (<< 2)", "bb 2; Depends: aa", "bb 1", "aa 1", "dd 1")) {
		for _, names := range []string{"cc", "cc bb", "aa bb cc"} {
			wantOf(t, repo, nil, names, "aa=1 bb=2 bb=1 cc=1")
		}
		wantOf(t, repo, ents("+aa 0", "+cc 0"), "bb", "aa=1 aa=0 bb=2 bb=1 cc=1 cc=0")
	}
}

// P12.2: what is reached are as many packages as may be, and All's error is told also where only few could be reached.
func TestOfMany(t *testing.T) {
	most := versions("aa", 50, api.MaxPackages)
	wantOf(t, most, nil, "aa", short(most))
	wantOf(t, most[1:], there(most[0]), "", short(most))
	wantOf(t, row(0, api.MaxNames), there(row(0, api.MaxNames)...), "", short(row(0, api.MaxNames)))
	wantOf(t, row(0, api.MaxNames), nil, "p105", "p105=1")
	wantRefused(t, api.ErrMany, most, ents("+bb 1"))
	wantRefused(t, api.ErrMany, row(0, api.MaxNames), ents("+aa 1"))
}

// P12.2: into the worklist each name enters once, and none that no package has.
func TestWorklist(t *testing.T) {
	x, e := join(pkgs("aa 1; Depends: bb, cc", "bb 1; Depends: aa, cc", "bb 2; Depends: aa", "cc 1; Depends: cc", "dd 1"), nil)
	if e != api.OK {
		t.Fatal(e)
	}
	w := newWorklist(x)
	for _, names := range [][]string{{}, {"bb", "zz", "bb"}, {"aa"}, {"", "bb", "aa"}} {
		w.enter(names...)
	}
	if !slices.Equal(w.names, []string{"bb", "aa"}) {
		t.Errorf("entered: %q", w.names)
	}
	for range 2 {
		if got := w.follow(); !slices.Equal(got, []string{"aa", "bb", "cc"}) {
			t.Errorf("reached: %q", got)
		}
	}
	if !slices.Equal(w.names, []string{"bb", "aa", "cc"}) {
		t.Errorf("entered: %q", w.names)
	}
}
