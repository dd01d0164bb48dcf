package record

import (
	"slices"
	"testing"

	"chandler/api"
)

// spoil overwrites all that p's lists have, and what has room behind them.
func spoil(p *api.Package) {
	for _, l := range [][]api.Clause{p.PreDepends, p.Depends, p.Recommends} {
		for i := range l {
			spoilList(l[i], api.Atom{Name: "spoilt"})
		}
		spoilList(l, api.Clause{{Name: "spoilt"}})
	}
	spoilList(p.Conflicts, api.Atom{Name: "spoilt"})
	spoilList(p.Breaks, api.Atom{Name: "spoilt"})
	spoilList(p.Provides, api.Provide{Name: "spoilt"})
}

// spoilList overwrites l, and what has room behind it.
func spoilList[S ~[]T, T any](l S, x T) {
	l = l[:cap(l)]
	for i := range l {
		l[i] = x
	}
}

// P9.2 with R2: what is told of a stanza is new each time, and shares nothing with the stanza.
func TestOfOwn(t *testing.T) {
	fields, want := good()
	s := at(1, fields...)
	before := show(s)
	first, _ := Of(s)
	second, _ := Of(s)
	spoil(&first)
	third, _ := Of(s)
	if show(second) != show(want) || show(third) != show(want) || show(s) != before {
		t.Errorf("spoilt: %s, %s, %s", show(second), show(third), show(s))
	}
	for i := range fields {
		clear(fields[i].Lines)
		fields[i].Name = "X"
	}
	if show(second) != show(want) {
		t.Errorf("what is told hangs on the stanza: %s", show(second))
	}
}

// P9.2 with R2: no two lists of one answer share memory.
func TestOfListsOwn(t *testing.T) {
	same := "aa, aa"
	s := at(1, line("Package", "aa"), line("Version", "1"), line("Pre-Depends", same), line("Depends", same), line("Recommends", same), line("Conflicts", same), line("Breaks", same), line("Provides", same))
	p, _ := Of(s)
	spoilList(p.PreDepends[0], api.Atom{Name: "spoilt"})
	spoilList(p.Conflicts, api.Atom{Name: "spoilt"})
	want := clauses(same)
	if show(p.PreDepends[1:]) != show(want[1:]) || show(p.Depends) != show(want) || show(p.Recommends) != show(want) || show(p.Breaks) != show(atoms(same)) || show(p.Provides) != show(provides(same)) {
		t.Errorf("shared: %s", show(p))
	}
}

// P9.3 with R2: a stanza that is told is new each time, and shares nothing with the package.
func TestStanzaOwn(t *testing.T) {
	p := whole()
	first, _ := Stanza(p)
	second, _ := Stanza(p)
	want := show(second)
	for i := range first.Fields {
		clear(first.Fields[i].Lines)
	}
	spoilList(first.Fields, api.Field{Name: "spoilt"})
	third, _ := Stanza(p)
	spoil(&p)
	if show(second) != want || show(third) != want {
		t.Errorf("spoilt: %s, %s", show(second), show(third))
	}
}

// P9.3, P9.4 with R2: texts that are handed in may be changed behind the call, and what is told, too.
func TestTextsOwn(t *testing.T) {
	b := []byte(wholeText + "State: configured\n")
	before := string(b)
	l, _ := Packages(b)
	again, _ := Packages(b)
	x, _ := Status(b)
	again2, _ := Status(b)
	if string(b) != before {
		t.Error("the text is changed")
	}
	spoil(&l[0])
	spoilList(l, api.Package{})
	spoil(&x[0].Pkg)
	spoilList(x, api.Entry{})
	clear(b)
	if show(again) != show([]api.Package{whole()}) || show(again2) != show([]api.Entry{{Pkg: whole(), Configured: true}}) {
		t.Errorf("spoilt: %s, %s", show(again), show(again2))
	}
	packages := []byte("Package: aa\nVersion: 1\nDepends: bb\n\nPackage: aa\nVersion: 2\nDepends: bb\n")
	l, _ = Packages(packages)
	spoil(&l[0])
	if show(l[1].Depends) != show(clauses("bb")) {
		t.Errorf("shared: %s", show(l))
	}
}

// P9.3, P9.4 with R2: prints are new each time; what is printed is not changed, nor what lies behind its length looked at.
func TestPrintsOwn(t *testing.T) {
	l := []api.Package{whole(), pkg("bb", "1"), pkg("a", "")}
	x := entries(l...)
	before, beforeX := show(l), show(x)
	p1, _ := Print(l[:2])
	p2, e := Print(l[:2])
	s1, _ := PrintStatus(x[:2])
	s2, f := PrintStatus(x[:2])
	spoilList(p1, 'x')
	spoilList(s1, 'x')
	if e != api.OK || f != api.OK || string(p2) != wholeText+"\nPackage: bb\nVersion: 1\n" || string(s2) != wholeText+"State: unpacked\n\nPackage: bb\nVersion: 1\nState: unpacked\n" {
		t.Errorf("%q, %d; %q, %d", p2, e, s2, f)
	}
	if show(l) != before || show(x) != beforeX {
		t.Errorf("changed: %s, %s", show(l), show(x))
	}
}

// P9.1 with R2: what is asked about is not changed; what lies behind the lengths of its lists does not count.
func TestMayOwn(t *testing.T) {
	bad := api.Atom{Name: "a"}
	row := many(api.MaxAtoms+1, api.Atom{Name: "aa"})
	row[1] = bad
	l := append(many(api.MaxClauses, api.Clause(row[:1])), row)
	p := pkg("aa", "1")
	p.PreDepends, p.Depends, p.Recommends = l[:1], l[:api.MaxClauses], l[:2]
	p.Conflicts, p.Breaks, p.Provides = row[:1], slices.Grow(row[:1:1], 100), []api.Provide{{Name: "aa"}, {}}[:1]
	before := show(p)
	wantMay(t, p, api.OK)
	wantAll(t, api.OK, p, pkg("bb", "1"))
	wantEntries(t, api.OK, entries(p, pkg("bb", "1"))...)
	if show(p) != before || row[1] != bad || len(l[api.MaxClauses]) != api.MaxAtoms+1 {
		t.Errorf("changed: %s", show(p))
	}
	packages := []api.Package{pkg("bb", "1"), pkg("aa", "1"), pkg("aa", "2"), pkg("a", "")}
	wantAll(t, api.OK, packages[:3]...)
	wantEntries(t, api.ErrTwice, entries(packages[:3]...)...)
	if show(packages) != show([]api.Package{pkg("bb", "1"), pkg("aa", "1"), pkg("aa", "2"), pkg("a", "")}) {
		t.Errorf("changed: %s", show(packages))
	}
}
