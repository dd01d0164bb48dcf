package record

import (
	"fmt"
	"slices"
	"strconv"
	"strings"
	"testing"

	"chandler/api"
	"chandler/relation"
)

// pkg tells a package without relations.
func pkg(name, v string) api.Package {
	return api.Package{Name: name, Version: v}
}

// clauses tells the clauses that s is.
func clauses(s string) []api.Clause {
	l, e := relation.Parse(s)
	if e != api.OK {
		panic(s)
	}
	return l
}

// atoms tells the atoms that s is.
func atoms(s string) []api.Atom {
	l, e := relation.ParseAtoms(s)
	if e != api.OK {
		panic(s)
	}
	return l
}

// provides tells what s provides.
func provides(s string) []api.Provide {
	l, e := relation.ParseProvides(s)
	if e != api.OK {
		panic(s)
	}
	return l
}

// whole tells a package that has something in each field.
func whole() api.Package {
	return api.Package{
		Name:       "aa",
		Version:    "1:2-3",
		PreDepends: clauses("bb"),
		Depends:    clauses("cc (>= 1) | dd, ee (<< 2)"),
		Recommends: clauses("ff (= 1), gg | hh | ii"),
		Conflicts:  atoms("jj, kk (>> 1.0~rc1)"),
		Breaks:     atoms("ll (<= 2)"),
		Provides:   provides("mm (= 3), nn"),
		Essential:  true,
	}
}

// wholeText is how the package whole is printed.
const wholeText = "Package: aa\nVersion: 1:2-3\nEssential: yes\nPre-Depends: bb\nDepends: cc (>= 1) | dd, ee (<< 2)\n" +
	"Recommends: ff (= 1), gg | hh | ii\nConflicts: jj, kk (>> 1.0~rc1)\nBreaks: ll (<= 2)\nProvides: mm (= 3), nn\n"

// line tells a field of just these lines.
func line(name string, lines ...string) api.Field {
	return api.Field{Name: name, Lines: lines}
}

// at tells a stanza of these fields that begins at that line.
func at(n int, fields ...api.Field) api.Stanza {
	return api.Stanza{Line: n, Fields: fields}
}

// show tells all that x has: nil and empty lists alike, and unlike texts unlike.
func show(x any) string {
	return fmt.Sprintf("%q", x)
}

// named tells that many packages of unlike names, which rise.
func named(n int) []api.Package {
	var l []api.Package
	for i := range n {
		l = append(l, pkg("p"+strconv.Itoa(100+i), "1"))
	}
	return l
}

// versions tells packages of one name, of the versions from one up to n.
func versions(name string, n int) []api.Package {
	var l []api.Package
	for i := range n {
		l = append(l, pkg(name, strconv.Itoa(i+1)))
	}
	return l
}

// entries tells packages as entries that are unpacked.
func entries(l ...api.Package) []api.Entry {
	var out []api.Entry
	for _, p := range l {
		out = append(out, api.Entry{Pkg: p})
	}
	return out
}

// stanzasOf tells the text of packages without relations, each with those lines behind its own ones.
func stanzasOf(more string, l ...api.Package) string {
	var parts []string
	for _, p := range l {
		parts = append(parts, "Package: "+p.Name+"\nVersion: "+p.Version+"\n"+more)
	}
	return strings.Join(parts, "\n")
}

// wantPackages fails, if the packages of s are not want.
func wantPackages(t *testing.T, s string, want ...api.Package) {
	t.Helper()
	if got, at := Packages([]byte(s)); at != (api.At{}) || show(got) != show(want) {
		t.Errorf("Packages(%.300q) = %.400s, %v; want %.400s", s, show(got), at, show(want))
	}
}

// wantFault fails, if Packages(s) does not tell that error at that line, and nothing beside it.
func wantFault(t *testing.T, s string, e api.Errno, line int) {
	t.Helper()
	if got, at := Packages([]byte(s)); at != (api.At{Err: e, Line: line}) || len(got) > 0 {
		t.Errorf("Packages(%.300q): %d packages, %v; want %d at %d", s, len(got), at, e, line)
	}
}

// wantStatus fails, if the entries of s are not want.
func wantStatus(t *testing.T, s string, want ...api.Entry) {
	t.Helper()
	if got, at := Status([]byte(s)); at != (api.At{}) || show(got) != show(want) {
		t.Errorf("Status(%.300q) = %.400s, %v; want %.400s", s, show(got), at, show(want))
	}
}

// wantStatusFault fails, if Status(s) does not tell that error at that line, and nothing beside it.
func wantStatusFault(t *testing.T, s string, e api.Errno, line int) {
	t.Helper()
	if got, at := Status([]byte(s)); at != (api.At{Err: e, Line: line}) || len(got) > 0 {
		t.Errorf("Status(%.300q): %d entries, %v; want %d at %d", s, len(got), at, e, line)
	}
}

// wantOf fails, if the package of s is not want.
func wantOf(t *testing.T, s api.Stanza, want api.Package) {
	t.Helper()
	if got, at := Of(s); at != (api.At{}) || show(got) != show(want) {
		t.Errorf("Of(%.300s) = %s, %v; want %s", show(s), show(got), at, show(want))
	}
}

// wantOfFault fails, if Of(s) does not tell that error at that line, and nothing beside it.
func wantOfFault(t *testing.T, s api.Stanza, e api.Errno, line int) {
	t.Helper()
	if got, at := Of(s); at != (api.At{Err: e, Line: line}) || show(got) != show(api.Package{}) {
		t.Errorf("Of(%.300s) = %s, %v; want %d at %d", show(s), show(got), at, e, line)
	}
}

// wantMay fails, if May(p) is not that error, or Stanza tells another one, or anything beside it.
func wantMay(t *testing.T, p api.Package, want api.Errno) {
	t.Helper()
	s, e := Stanza(p)
	if got := May(p); got != want || e != want || want != api.OK && show(s) != show(api.Stanza{}) {
		t.Errorf("May(%.400s) = %d, Stanza tells %d; want %d", show(p), got, e, want)
	}
}

// wantAll fails, if MayAll(l) is not that error, or Print tells another one, or anything beside it.
func wantAll(t *testing.T, want api.Errno, l ...api.Package) {
	t.Helper()
	b, e := Print(l)
	if got := MayAll(l); got != want || e != want || want != api.OK && len(b) > 0 {
		t.Errorf("MayAll(%.400s) = %d, Print tells %d; want %d", show(l), got, e, want)
	}
}

// wantEntries fails, if MayEntries(l) is not that error, or PrintStatus tells another one, or anything beside it.
func wantEntries(t *testing.T, want api.Errno, l ...api.Entry) {
	t.Helper()
	b, e := PrintStatus(l)
	if got := MayEntries(l); got != want || e != want || want != api.OK && len(b) > 0 {
		t.Errorf("MayEntries(%.400s) = %d, PrintStatus tells %d; want %d", show(l), got, e, want)
	}
}

// join tells these lists as one.
func join[T any](lists ...[]T) []T {
	return slices.Concat(lists...)
}
