package record

import (
	"strconv"
	"strings"
	"testing"

	"chandler/api"
)

// P9.3: texts of packages: none, one, several, with remarks, with fields in other cases and of several lines, with such as are dropped.
func TestPackagesKnown(t *testing.T) {
	wantPackages(t, "")
	wantPackages(t, "\n# nothing\n \n")
	if l, at := Packages(nil); len(l) > 0 || at != (api.At{}) {
		t.Errorf("Packages(nil) = %s, %v", show(l), at)
	}
	wantPackages(t, wholeText, whole())
	wantPackages(t, "Package: aa\nVersion: 1\nDepends: bb", api.Package{Name: "aa", Version: "1", Depends: clauses("bb")})
	wantPackages(t, "# one\nversion:\n 1\nDEPENDS: bb |\n#\n\tcc,\n .\n dd\nPackage: aa\nState: gone\nHold: yes\nPriority: 7\n\n\n#\npackage: bb\nVersion: 01\nEssential: no\n",
		api.Package{Name: "aa", Version: "1", Depends: clauses("bb | cc, dd")}, pkg("bb", "01"))
	wantPackages(t, "Package: bb\nVersion: 1\n\nPackage: aa\nVersion: 2\n\nPackage: aa\nVersion: 1\n", pkg("bb", "1"), pkg("aa", "2"), pkg("aa", "1"))
}

// P9.3: what is no stanza is told as stanza.Parse tells it, be a stanza ahead of it no package.
func TestPackagesParse(t *testing.T) {
	wantFault(t, "Package: aa\nVersion: 1\nfoo", api.ErrForm, 3)
	wantFault(t, " Package: aa", api.ErrForm, 1)
	wantFault(t, "Package: aa\nVersion: 1\npackage: bb\n", api.ErrTwice, 3)
	wantFault(t, "Package: aa\nVersion: 1\n\nX: \xff\n", api.ErrForm, 4)
	wantFault(t, "Package: aa\nX: "+strings.Repeat("x", api.MaxLine), api.ErrLong, 2)
	wantFault(t, strings.Repeat("#\n", api.MaxText/2)+"\n", api.ErrLong, 0)
	wantFault(t, strings.Repeat("X:\n\n", api.MaxStanzas)+"Y:\n", api.ErrMany, 2*api.MaxStanzas+1)
	wantFault(t, "Package: a\n\nfoo", api.ErrForm, 3)
	wantFault(t, "Version: 1\n\nX: 1\nX: 2\n", api.ErrTwice, 4)
}

// P9.3: what is no package is told as Of tells it, by the line of its stanza, and the first such from the left.
func TestPackagesOf(t *testing.T) {
	wantFault(t, "Package: aa", api.ErrLack, 1)
	wantFault(t, "\n#\n\nVersion: 1\nX: y\n z\n", api.ErrLack, 4)
	wantFault(t, "X:", api.ErrLack, 1)
	wantFault(t, "Package: aa\nVersion:\n x\nDepends: |", api.ErrForm, 2)
	wantFault(t, "Depends: |\nPackage: aa\nVersion: 1\n", api.ErrForm, 1)
	wantFault(t, "Package: aa\nX: a\n b\n .\nVersion: 1\nDepends: bb,\n", api.ErrForm, 6)
	wantFault(t, "Package: aa\nVersion: 1\n\nPackage: bb\nBreaks: cc | dd\n", api.ErrForm, 5)
	wantFault(t, "Package: aa\nVersion: 1\nHold: maybe\n", api.ErrForm, 3)
	wantFault(t, "Package: aa\nVersion: 1\nPriority: 01\n", api.ErrForm, 3)
	wantFault(t, "Package: aa\n\nPackage: bb\nVersion: x\n", api.ErrLack, 1)
	wantFault(t, "Package: aa\nVersion: x\n\nPackage: bb\n", api.ErrForm, 2)
	wantFault(t, "Package: aa\nVersion: 1\n\nVersion: 1\n\nPackage: cc\nVersion: x\n", api.ErrLack, 4)
	full := "Conflicts: aa" + strings.Repeat(", aa", api.MaxClauses) + "\n"
	wantFault(t, full+"Breaks: |\n", api.ErrMany, 1)
	wantFault(t, "Breaks: |\n"+full, api.ErrForm, 1)
}

// P9.2, P9.3: remarks ahead of a stanza count for its line, those within it do not: the line is that of its print.
func TestPackagesRemarks(t *testing.T) {
	wantFault(t, "# a\n# b\nPackage: a\n", api.ErrForm, 3)
	wantFault(t, "# a\nPackage: aa\n# b\nX:\n# c\n y\n# d\nVersion: x\n", api.ErrForm, 5)
	wantFault(t, "Package: aa\n#\n#\nX: 1\n#\nVersion: 1\n#\n\n#\nPackage: bb\n#\n#\n#\nVersion:\n", api.ErrForm, 11)
	wantFault(t, "Package: aa\n#\n#\nX:\n\n#\n#\nVersion: 1\n#\n", api.ErrLack, 1)
}

// P9.3: what may not be all together is told last, at line 0.
func TestPackagesMayAll(t *testing.T) {
	wantPackages(t, stanzasOf("", versions("aa", api.MaxPackages)...), versions("aa", api.MaxPackages)...)
	wantFault(t, stanzasOf("", versions("aa", api.MaxPackages+1)...), api.ErrMany, 0)
	wantFault(t, stanzasOf("", versions("aa", api.MaxStanzas)...), api.ErrMany, 0)
	wantPackages(t, stanzasOf("", named(api.MaxNames)...), named(api.MaxNames)...)
	wantFault(t, stanzasOf("", named(api.MaxNames+1)...), api.ErrMany, 0)
	wantFault(t, "Package: aa\nVersion: 1\n\nPackage: bb\nVersion: 1\n\nPackage: aa\nVersion: 1.0-0\n\nPackage: aa\nVersion: 01\n", api.ErrTwice, 0)
	wantFault(t, stanzasOf("", append(versions("aa", api.MaxPackages), pkg("aa", "x"))...), api.ErrForm, 3*api.MaxPackages+2)
	wantFault(t, stanzasOf("", pkg("aa", "1"), pkg("aa", "1"))+"\nPackage: bb\n", api.ErrLack, 7)
}

// P9.3: the stanza of a package: its fields in their order, each of one line; what says nothing is left out; Line is 0.
func TestStanza(t *testing.T) {
	s, e := Stanza(whole())
	want := at(0, line("Package", "aa"), line("Version", "1:2-3"), line("Essential", "yes"), line("Pre-Depends", "bb"), line("Depends", "cc (>= 1) | dd, ee (<< 2)"),
		line("Recommends", "ff (= 1), gg | hh | ii"), line("Conflicts", "jj, kk (>> 1.0~rc1)"), line("Breaks", "ll (<= 2)"), line("Provides", "mm (= 3), nn"))
	if e != api.OK || show(s) != show(want) {
		t.Errorf("%s, %d", show(s), e)
	}
	for i, clear := range map[int]func(p *api.Package){
		2: func(p *api.Package) { p.Essential = false }, 3: func(p *api.Package) { p.PreDepends = nil }, 4: func(p *api.Package) { p.Depends = []api.Clause{} },
		5: func(p *api.Package) { p.Recommends = nil }, 6: func(p *api.Package) { p.Conflicts = nil }, 7: func(p *api.Package) { p.Breaks = []api.Atom{} }, 8: func(p *api.Package) { p.Provides = nil },
	} {
		p := whole()
		clear(&p)
		rest := at(0, join(want.Fields[:i], want.Fields[i+1:])...)
		if s, e := Stanza(p); e != api.OK || show(s) != show(rest) {
			t.Errorf("without %d: %s, %d", i, show(s), e)
		}
	}
	if s, e := Stanza(pkg("no", "01")); e != api.OK || show(s) != show(at(0, line("Package", "no"), line("Version", "01"))) {
		t.Errorf("%s, %d", show(s), e)
	}
}

// P9.3: a package with as much as may be has a stanza, though its lines are too long to be printed.
func TestStanzaLong(t *testing.T) {
	s, e := Stanza(largest())
	if e != api.OK || len(s.Fields) != 8 {
		t.Errorf("%d fields, %d", len(s.Fields), e)
	}
	wantOf(t, s, largest())
	if b, e := Print([]api.Package{largest()}); e != api.ErrLong || len(b) > 0 {
		t.Errorf("%d bytes, %d", len(b), e)
	}
	if b, e := PrintStatus(entries(largest())); e != api.ErrLong || len(b) > 0 {
		t.Errorf("%d bytes, %d", len(b), e)
	}
}

// wantPrint fails, if the print of l is not want.
func wantPrint(t *testing.T, want string, l ...api.Package) {
	t.Helper()
	if b, e := Print(l); e != api.OK || string(b) != want {
		t.Errorf("Print(%.300s) = %.500q, %d; want %.500q", show(l), b, e, want)
	}
}

// P9.3: prints of none, of one, of several, in their order.
func TestPrint(t *testing.T) {
	wantPrint(t, "")
	wantPrint(t, wholeText, whole())
	wantPrint(t, "Package: bb\nVersion: 1\n\n"+wholeText+"\nPackage: aa\nVersion: 01\n", pkg("bb", "1"), whole(), pkg("aa", "01"))
}

// clausesOf tells as many clauses and atoms as may be, whose text has n bytes.
func clausesOf(n int) []api.Clause {
	const atoms = api.MaxClauses * api.MaxAtoms
	rest := n - len(", ")*(api.MaxClauses-1) - len(" | ")*api.MaxClauses*(api.MaxAtoms-1)
	l := make([]api.Clause, api.MaxClauses)
	for i := range atoms {
		size := rest / (atoms - i)
		rest -= size
		l[i%api.MaxClauses] = append(l[i%api.MaxClauses], api.Atom{Name: strings.Repeat("a", size)})
	}
	return l
}

// P9.3: of packages that may be, but of which a line is too long to be printed, stanza.Print's error is told; their stanzas are as they are.
func TestPrintLongLine(t *testing.T) {
	for n, want := range map[int]api.Errno{api.MaxLine - 1: api.OK, api.MaxLine: api.OK, api.MaxLine + 1: api.ErrLong, api.MaxLine + 900: api.ErrLong} {
		p := pkg("aa", "1")
		p.Depends = clausesOf(n - len("Depends: "))
		b, e := Print([]api.Package{p})
		if size := len("Package: aa\nVersion: 1\n") + n + 1; e != want || e == api.OK && len(b) != size || e != api.OK && len(b) > 0 {
			t.Errorf("a line of %d bytes: %d, %d", n, len(b), e)
		}
		s, e := Stanza(p)
		if e != api.OK || len(s.Fields) != 3 || len(s.Fields[2].Lines) != 1 || len(s.Fields[2].Lines[0]) != n-len("Depends: ") {
			t.Errorf("a line of %d bytes: %d, %.100s", n, e, show(s))
		}
	}
}

// sized tells as many packages as may be, whose print has n bytes.
func sized(n int) []api.Package {
	var l []api.Package
	for i := range api.MaxPackages {
		l = append(l, pkg("aa", strconv.Itoa(10+i)))
	}
	rest := n - len(stanzasOf("Pre-Depends: \nDepends: \nRecommends: \n", l...))
	for i := range 3 * len(l) {
		size := rest / (3*len(l) - i)
		rest -= size
		p := &l[i/3]
		switch i % 3 {
		case 0:
			p.PreDepends = clausesOf(size)
		case 1:
			p.Depends = clausesOf(size)
		case 2:
			p.Recommends = clausesOf(size)
		}
	}
	return l
}

// P9.3: a print of MaxText bytes, and of one more.
func TestPrintLongText(t *testing.T) {
	for _, n := range []int{api.MaxText - 1, api.MaxText} {
		b, e := Print(sized(n))
		if e != api.OK || len(b) != n {
			t.Errorf("%d bytes: %d, %d", n, len(b), e)
		}
		wantPackages(t, string(b), sized(n)...)
	}
	for _, n := range []int{api.MaxText + 1, api.MaxText + 3000} {
		if b, e := Print(sized(n)); e != api.ErrLong || len(b) > 0 {
			t.Errorf("%d bytes: %d, %d", n, len(b), e)
		}
	}
}
