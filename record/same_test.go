package record

import (
	"testing"

	"chandler/api"
)

// change is another value of one field, with which no two packages are the same.
type change struct {
	field string
	turn  func(p *api.Package)
}

// changes tells, of the package whole, one change after the other.
func changes() []change {
	all := []change{
		{"Name", func(p *api.Package) { p.Name = "ab" }}, {"Name", func(p *api.Package) { p.Name = "" }}, {"Name", func(p *api.Package) { p.Name = "AA" }},
		{"Version", func(p *api.Package) { p.Version = "01:2-3" }}, {"Version", func(p *api.Package) { p.Version = "1:2-03" }}, {"Version", func(p *api.Package) { p.Version = "" }},
		{"Essential", func(p *api.Package) { p.Essential = false }},
	}
	for field, of := range map[string]func(p *api.Package) *[]api.Clause{
		"PreDepends": func(p *api.Package) *[]api.Clause { return &p.PreDepends },
		"Depends":    func(p *api.Package) *[]api.Clause { return &p.Depends },
		"Recommends": func(p *api.Package) *[]api.Clause { return &p.Recommends },
	} {
		for _, l := range [][]api.Clause{
			nil, {}, {{}}, {nil, nil}, clauses("xx"), clauses("cc (>= 1), dd, ee (<< 2)"), clauses("dd | cc (>= 1), ee (<< 2)"), clauses("ee (<< 2), cc (>= 1) | dd"), clauses("cc (>= 1) | dd"),
			clauses("cc (>> 1) | dd, ee (<< 2)"), clauses("cc (>= 01) | dd, ee (<< 2)"), clauses("cc | dd, ee (<< 2)"), clauses("cc (>= 1) | dd, ee (<< 2), ee (<< 2)"), clauses("cc (>= 1) | dd | dd, ee (<< 2)"),
		} {
			all = append(all, change{field, func(p *api.Package) { *of(p) = l }})
		}
	}
	for field, of := range map[string]func(p *api.Package) *[]api.Atom{
		"Conflicts": func(p *api.Package) *[]api.Atom { return &p.Conflicts },
		"Breaks":    func(p *api.Package) *[]api.Atom { return &p.Breaks },
	} {
		for _, l := range [][]api.Atom{nil, {}, {{}}, atoms("xx"), atoms("kk (>> 1.0~rc1), jj"), atoms("jj"), atoms("jj, kk (>= 1.0~rc1)"), atoms("jj, kk (>> 1.00~rc1)"), atoms("jj, kk (>> 1.0~rc1), jj"), atoms("ll (<< 2)"), atoms("ll (<= 02)")} {
			all = append(all, change{field, func(p *api.Package) { *of(p) = l }})
		}
	}
	for _, l := range [][]api.Provide{nil, {}, {{}}, provides("xx"), provides("nn, mm (= 3)"), provides("mm (= 3)"), provides("mm, nn"), provides("mm (= 03), nn"), provides("mm (= 3), nn (= 1)"), provides("mm (= 3), nn, nn")} {
		all = append(all, change{"Provides", func(p *api.Package) { p.Provides = l }})
	}
	return all
}

// wantSame fails, if Same(a, b), or turned round, is not want.
func wantSame(t *testing.T, a, b api.Package, want bool) {
	t.Helper()
	if Same(a, b) != want || Same(b, a) != want {
		t.Errorf("Same(%s, %s) is not %t", show(a), show(b), want)
	}
}

// P9.5: packages that are the same in all fields, and such as are not in just one, whether they may be or not.
func TestSame(t *testing.T) {
	wantSame(t, api.Package{}, api.Package{}, true)
	wantSame(t, pkg("aa", "1"), pkg("aa", "1"), true)
	wantSame(t, whole(), whole(), true)
	wantSame(t, largest(), largest(), true)
	wantSame(t, whole(), largest(), false)
	wantSame(t, whole(), api.Package{}, false)
	for _, c := range changes() {
		p, q := whole(), whole()
		c.turn(&p)
		wantSame(t, p, whole(), false)
		c.turn(&q)
		wantSame(t, p, q, true)
	}
}

// P9.5: any two of the changed packages are the same just if they have the same within.
func TestSamePairs(t *testing.T) {
	all := []api.Package{whole(), {}, pkg("aa", "1:2-3"), largest()}
	for _, c := range changes() {
		for _, p := range []api.Package{whole(), {}} {
			c.turn(&p)
			all = append(all, p)
		}
	}
	for _, p := range all {
		for _, q := range all {
			if want := show(p) == show(q); Same(p, q) != want {
				t.Fatalf("Same(%s, %s) is not %t", show(p), show(q), want)
			}
		}
	}
}

// P9.5: versions that are written otherwise are others; lists that are nil are as empty ones, clauses too.
func TestSameEdges(t *testing.T) {
	wantSame(t, pkg("aa", "1"), pkg("aa", "01"), false)
	wantSame(t, pkg("aa", "1.0"), pkg("aa", "1.0-0"), false)
	a, b := pkg("aa", "1"), pkg("aa", "1")
	b.PreDepends, b.Depends, b.Recommends, b.Conflicts, b.Breaks, b.Provides = []api.Clause{}, []api.Clause{}, []api.Clause{}, []api.Atom{}, []api.Atom{}, []api.Provide{}
	wantSame(t, a, b, true)
	a.Depends, b.Depends = []api.Clause{nil}, []api.Clause{{}}
	wantSame(t, a, b, true)
	a.Depends = nil
	wantSame(t, a, b, false)
	// The same lists in other fields.
	a, b = pkg("aa", "1"), pkg("aa", "1")
	a.Depends, b.PreDepends = clauses("bb"), clauses("bb")
	wantSame(t, a, b, false)
	a, b = pkg("aa", "1"), pkg("aa", "1")
	a.Conflicts, b.Breaks = atoms("bb"), atoms("bb")
	wantSame(t, a, b, false)
	// What lies behind a list's length does not count.
	long, other := atoms("bb, cc"), atoms("bb, dd")
	a, b = pkg("aa", "1"), pkg("aa", "1")
	a.Breaks, b.Breaks = long[:1], other[:1]
	wantSame(t, a, b, true)
}
