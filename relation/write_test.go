package relation

import (
	"slices"
	"strings"
	"testing"

	"chandler/api"
)

// written is an atom, and how it is written; nothing, if it may not be.
type written struct {
	atom api.Atom
	want string
}

// atoms tells atoms that may be, and that may not.
func atoms() []written {
	longName, longVersion := strings.Repeat("a", api.MaxName), strings.Repeat("1", api.MaxVersion)
	l := []written{
		{anyOf("aa"), "aa"}, {anyOf("0+.-"), "0+.-"}, {anyOf(longName), longName},
		{atomOf("aa", api.RLt, "1"), "aa (<< 1)"}, {atomOf("aa", api.RLe, "1"), "aa (<= 1)"}, {atomOf("aa", api.REq, "1"), "aa (= 1)"},
		{atomOf("aa", api.RGe, "1:2-3"), "aa (>= 1:2-3)"}, {atomOf("aa", api.RGt, "007:1~"), "aa (>> 007:1~)"},
		{atomOf(longName, api.REq, longVersion), longName + " (= " + longVersion + ")"},
		{api.Atom{}, ""}, {anyOf("a"), ""}, {anyOf("AA"), ""}, {anyOf("-a"), ""}, {anyOf("aa bb"), ""}, {anyOf(" aa"), ""}, {anyOf("aa\xff"), ""}, {anyOf(longName + "a"), ""},
		{atomOf("aa", api.RAny, "1"), ""}, {atomOf("aa", api.RAny, "x"), ""}, {atomOf("aa", api.RAny, " "), ""},
	}
	for _, rel := range []int{api.RLt, api.RLe, api.REq, api.RGe, api.RGt} {
		for _, version := range []string{"", "x", " 1", "1 ", "1)", "1-", "1\xff", longVersion + "1"} {
			l = append(l, written{atomOf("aa", rel, version), ""})
		}
		l = append(l, written{atomOf("a", rel, "1"), ""}, written{atomOf("", rel, "1"), ""}, written{atomOf("aa (= 1), aa", rel, "1"), ""})
	}
	for _, rel := range []int{-1, -3, api.RGt + 1, 7, 256, 256 + api.REq, 1 << 32, 1<<32 + api.REq, -1 << 63, 1<<63 - 1} {
		l = append(l, written{atomOf("aa", rel, "1"), ""}, written{atomOf("aa", rel, ""), ""}, written{atomOf("aa", rel, "x"), ""})
	}
	return l
}

// P7.1, P7.3: which atoms may be, and how each is written, alone, in a clause, in a row.
func TestAtom(t *testing.T) {
	for _, x := range atoms() {
		if got := MayAtom(x.atom); got != (x.want != "") {
			t.Errorf("MayAtom(%v) = %v", x.atom, got)
		}
		if got := Atom(x.atom); got != x.want {
			t.Errorf("Atom(%v) = %q, want %q", x.atom, got, x.want)
		}
		wantText(t, x.want, api.Clause{x.atom})
		wantRow(t, x.want, x.atom)
		if x.want != "" {
			wantText(t, "bb | "+x.want+", "+x.want, api.Clause{anyOf("bb"), x.atom}, api.Clause{x.atom})
			wantRow(t, "bb, "+x.want, anyOf("bb"), x.atom)
			continue
		}
		// One that may not be, wherever it stands, leaves nothing.
		wantText(t, "", api.Clause{x.atom}, api.Clause{anyOf("bb")})
		wantText(t, "", api.Clause{anyOf("bb")}, api.Clause{anyOf("bb"), x.atom})
		wantText(t, "", api.Clause{x.atom, anyOf("bb")})
		wantRow(t, "", x.atom, anyOf("bb"))
		wantRow(t, "", anyOf("bb"), x.atom)
	}
}

// wantText fails, if these clauses are not written so.
func wantText(t *testing.T, want string, l ...api.Clause) {
	t.Helper()
	if got := Text(l); got != want {
		t.Errorf("Text(%.200v) = %.200q, want %.200q", l, got, want)
	}
}

// wantRow fails, if these atoms are not written so.
func wantRow(t *testing.T, want string, l ...api.Atom) {
	t.Helper()
	if got := Atoms(l); got != want {
		t.Errorf("Atoms(%.200v) = %.200q, want %.200q", l, got, want)
	}
}

// wantProvided fails, if these are not written so.
func wantProvided(t *testing.T, want string, l ...api.Provide) {
	t.Helper()
	if got := Provides(l); got != want {
		t.Errorf("Provides(%.200v) = %.200q, want %.200q", l, got, want)
	}
}

// P7.3: no clauses, an empty clause, wherever it stands.
func TestTextNothing(t *testing.T) {
	good := api.Clause{anyOf("aa")}
	wantText(t, "")
	wantText(t, "", api.Clause{})
	wantText(t, "", nil)
	wantText(t, "", api.Clause{}, good)
	wantText(t, "", good, api.Clause{})
	wantText(t, "", good, nil, good)
	wantRow(t, "")
	wantProvided(t, "")
	wantText(t, "", []api.Clause{}...)
}

// P7.3: MaxClauses clauses and MaxAtoms atoms of one, and one more.
func TestTextMany(t *testing.T) {
	atom := atomOf("aa", api.RGe, "1")
	wide := slices.Repeat(api.Clause{atom}, api.MaxAtoms)
	full := slices.Repeat([]api.Clause{wide}, api.MaxClauses)
	row := rowOf("aa (>= 1)", " | ", api.MaxAtoms)
	wantText(t, row, wide)
	wantText(t, rowOf(row, ", ", api.MaxClauses), full...)
	wantText(t, "", append(slices.Clone(wide), atom))
	wantText(t, "", append(full[:api.MaxClauses-1:api.MaxClauses-1], append(slices.Clone(wide), atom))...)
	wantText(t, "", append(slices.Clone(full), api.Clause{atom})...)
	wantText(t, "", make([]api.Clause, api.MaxClauses+1)...)
	wantText(t, "", make(api.Clause, api.MaxAtoms+1))
	wantRow(t, rowOf("aa (>= 1)", ", ", api.MaxClauses), slices.Repeat([]api.Atom{atom}, api.MaxClauses)...)
	wantRow(t, "", slices.Repeat([]api.Atom{atom}, api.MaxClauses+1)...)
	wantRow(t, "", slices.Repeat([]api.Atom{atom}, api.MaxText)...)
	provide := api.Provide{Name: "aa", Version: "1"}
	wantProvided(t, rowOf("aa (= 1)", ", ", api.MaxClauses), slices.Repeat([]api.Provide{provide}, api.MaxClauses)...)
	wantProvided(t, "", slices.Repeat([]api.Provide{provide}, api.MaxClauses+1)...)
}

// P7.3: what is provided, with and without a version, and what may not be.
func TestProvides(t *testing.T) {
	wantProvided(t, "aa", api.Provide{Name: "aa"})
	wantProvided(t, "aa (= 1:2-3)", api.Provide{Name: "aa", Version: "1:2-3"})
	wantProvided(t, "aa, bb (= 2), aa (= 1)", api.Provide{Name: "aa"}, api.Provide{Name: "bb", Version: "2"}, api.Provide{Name: "aa", Version: "1"})
	good := api.Provide{Name: "aa", Version: "1"}
	for _, bad := range []api.Provide{
		{}, {Name: "a"}, {Name: "AA", Version: "1"}, {Version: "1"}, {Name: "aa", Version: "x"}, {Name: "aa", Version: " "}, {Name: "aa", Version: "1-"}, {Name: "aa\xff"},
		{Name: strings.Repeat("a", api.MaxName+1)}, {Name: "aa", Version: strings.Repeat("1", api.MaxVersion+1)},
	} {
		wantProvided(t, "", bad)
		wantProvided(t, "", good, bad)
		wantProvided(t, "", bad, good)
	}
}

// P7.3: what is handed in stays as it is, and what lies behind a list's length is not read.
func TestWriteLeaves(t *testing.T) {
	bad := anyOf("x")
	clause := api.Clause{anyOf("aa"), atomOf("bb", api.REq, "1"), bad}
	l := []api.Clause{clause[:2], {anyOf("cc")}, nil}
	before := []api.Clause{slices.Clone(clause), slices.Clone(l[1])}
	wantText(t, "aa | bb (= 1), cc", l[:2]...)
	if !slices.Equal(clause, before[0]) || !slices.Equal(l[1], before[1]) || l[2] != nil {
		t.Errorf("Text changed %v, %v", clause, l)
	}
	wantRow(t, "aa, bb (= 1)", clause[:2]...)
	if !slices.Equal(clause, before[0]) {
		t.Errorf("Atoms changed %v", clause)
	}
	provides := []api.Provide{{Name: "aa"}, {Name: "bb", Version: "1"}, {Name: "x"}}
	kept := slices.Clone(provides)
	wantProvided(t, "aa, bb (= 1)", provides[:2]...)
	if !slices.Equal(provides, kept) {
		t.Errorf("Provides changed %v", provides)
	}
}
