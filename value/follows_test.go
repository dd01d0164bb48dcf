package value

import (
	"strings"
	"testing"

	"chandler/api"
)

// picks is a row of numbers that goes every which way, but always the same one.
type picks uint32

// pick tells the next number, at least 0 and below n.
func (p *picks) pick(n int) int {
	*p = *p*1664525 + 1013904223
	return int(*p>>8) % n
}

// goodAtom tells an atom that may be, of at most that relation.
func goodAtom(p *picks) api.Atom {
	names := []string{"aa", "b0", "c+.-", strings.Repeat("e", api.MaxName)}
	a := api.Atom{Name: names[p.pick(len(names))], Rel: p.pick(api.RGt + 1)}
	if a.Rel != api.RAny {
		a.Version = goodVersion(p)
	}
	return a
}

// goodVersion tells a version.
func goodVersion(p *picks) string {
	versions := []string{"1", "0", "1:2~-3", "01", "1.0-0", strings.Repeat("9", api.MaxVersion)}
	return versions[p.pick(len(versions))]
}

// wantBack fails, if Read of Write of v, by any name of a field that is read so, is not v.
func wantBack(t *testing.T, field string, v Value) {
	t.Helper()
	s, ok := Write(v)
	if !ok {
		t.Errorf("Write(%v) = %q, false", v, s)
		return
	}
	for _, small := range fields()[field] {
		for _, name := range []string{small, strings.ToUpper(small)} {
			if got, e := Read(name, s); e != api.OK || !same(got, v) {
				t.Errorf("Read(%s, %q) = %v, %d; want %v", name, s, got, e, v)
			}
		}
	}
}

// P8.5: lists are there and back again.
func TestListsThereAndBack(t *testing.T) {
	p := picks(85)
	for range 3000 {
		var clauses []api.Clause
		var atoms []api.Atom
		var provides []api.Provide
		for range p.pick(api.MaxClauses + 1) {
			var c api.Clause
			for range 1 + p.pick(api.MaxAtoms) {
				c = append(c, goodAtom(&p))
			}
			clauses = append(clauses, c)
			atoms = append(atoms, goodAtom(&p))
			a := goodAtom(&p)
			provides = append(provides, api.Provide{Name: a.Name, Version: a.Version})
		}
		wantBack(t, "clauses", OfClauses(clauses))
		wantBack(t, "atoms", OfAtoms(atoms))
		wantBack(t, "provides", OfProvides(provides))
	}
	wantBack(t, "clauses", OfClauses(nil))
	wantBack(t, "atoms", OfAtoms(nil))
	wantBack(t, "provides", OfProvides(nil))
}

// P8.5: texts, counts and yes are there and back again.
func TestThereAndBack(t *testing.T) {
	for _, s := range []string{"", "a", "yes", "aa, bb", "x y\x00\xff\n"} {
		wantBack(t, "text", OfText(s))
	}
	p := picks(5)
	for range 200 {
		wantBack(t, "name", OfText(goodAtom(&p).Name))
		wantBack(t, "version", OfText(goodVersion(&p)))
	}
	for _, n := range []int{0, 1, 9, 10, 12, 99, 100, 123456789, 999999999} {
		wantBack(t, "count", OfCount(n))
	}
	wantBack(t, "yes", OfYes(true))
	wantBack(t, "yes", OfYes(false))
}

// P8.5: a count that is none of a field's is written, but not read.
func TestNotBack(t *testing.T) {
	for _, n := range []int{-1, -12, 1000000000, 1 << 62, -1 << 63} {
		s, ok := Write(OfCount(n))
		if !ok {
			t.Errorf("Write of %d: %q", n, s)
		}
		wantError(t, "count", s, api.ErrForm)
	}
}

// P8.5: MustText panics just where Text tells false, and MustCount and MustYes where Count and Yes do.
func TestMustWhereFalse(t *testing.T) {
	for i, x := range samples() {
		_, text := Text(x.v)
		_, count := Count(x.v)
		_, yes := Yes(x.v)
		if w := Try(func() { MustText(x.v) }); (w == nil) != text {
			t.Errorf("%d: MustText of a %s: %v", i, x.kind, w)
		}
		if w := Try(func() { MustCount(x.v) }); (w == nil) != count {
			t.Errorf("%d: MustCount of a %s: %v", i, x.kind, w)
		}
		if w := Try(func() { MustYes(x.v) }); (w == nil) != yes {
			t.Errorf("%d: MustYes of a %s: %v", i, x.kind, w)
		}
	}
}
