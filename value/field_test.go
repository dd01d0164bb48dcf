package value

import (
	"math"
	"slices"
	"strings"
	"testing"

	"chandler/api"
	"chandler/relation"
)

// fields tells the fields' names by what is read of them.
func fields() map[string][]string {
	return map[string][]string{
		"name":     {"package"},
		"version":  {"version"},
		"clauses":  {"pre-depends", "depends", "recommends"},
		"atoms":    {"conflicts", "breaks"},
		"provides": {"provides"},
		"yes":      {"essential", "hold", "configured"},
		"count":    {"priority"},
		"text":     {"", "other", "state", "section", "description", "suggests"},
	}
}

// cases tells s in each case: each of its letters great and small.
func cases(s string) []string {
	l := []string{""}
	for _, r := range s {
		small, great := string(r), strings.ToUpper(string(r))
		var more []string
		for _, ahead := range l {
			more = append(more, ahead+small)
			if great != small {
				more = append(more, ahead+great)
			}
		}
		l = more
	}
	return l
}

// wantRead fails, if Read of any field that is read so does not tell the value of s.
func wantRead(t *testing.T, field, s string, want Value) {
	t.Helper()
	for _, name := range fields()[field] {
		if got, e := Read(name, s); e != api.OK || !same(got, want) {
			t.Errorf("Read(%s, %.200q) = %v, %d; want %v", name, s, got, e, want)
		}
	}
}

// wantError fails, if Read of any field that is read so does not tell that error of s, and no value beside it.
func wantError(t *testing.T, field, s string, want api.Errno) {
	t.Helper()
	for _, name := range fields()[field] {
		if got, e := Read(name, s); e != want || Kind(got) != "none" {
			t.Errorf("Read(%s, %.200q) = %v, %d; want %d", name, s, got, e, want)
		}
	}
}

// same tells whether a and b are of one kind, and have the same within.
func same(a, b Value) bool {
	s1, _ := Text(a)
	s2, _ := Text(b)
	n1, _ := Count(a)
	n2, _ := Count(b)
	b1, _ := Yes(a)
	b2, _ := Yes(b)
	c1, _ := Clauses(a)
	c2, _ := Clauses(b)
	l1, _ := Atoms(a)
	l2, _ := Atoms(b)
	p1, _ := Provides(a)
	p2, _ := Provides(b)
	return Kind(a) == Kind(b) && s1 == s2 && n1 == n2 && b1 == b2 && sameClauses(c1, c2) && slices.Equal(l1, l2) && slices.Equal(p1, p2)
}

// P8.4: each field's name, in each case, asks for its kind.
func TestReadNames(t *testing.T) {
	good := map[string]struct{ text, kind string }{
		"name": {"aa", "text"}, "version": {"1-1", "text"}, "clauses": {"aa | bb", "clauses"}, "atoms": {"aa (<< 1)", "atoms"},
		"provides": {"aa (= 1)", "provides"}, "yes": {"yes", "yes"}, "count": {"12", "count"}, "text": {"any\xff text | at all,", "text"},
	}
	bad := map[string]string{"name": "a", "version": "x", "clauses": "aa,", "atoms": "aa | bb", "provides": "aa (>= 1)", "yes": "YES", "count": "-1"}
	for field, names := range fields() {
		for _, small := range names {
			for _, name := range cases(small) {
				if v, e := Read(name, good[field].text); Kind(v) != good[field].kind || e != api.OK {
					t.Errorf("Read(%s): %s, %d", name, Kind(v), e)
				}
				if field == "text" {
					continue
				}
				if v, e := Read(name, bad[field]); Kind(v) != "none" || e != api.ErrForm {
					t.Errorf("Read(%s): %s, %d", name, Kind(v), e)
				}
			}
		}
	}
}

// P8.4: names that are almost those of a field are others: their values are texts.
func TestReadOtherNames(t *testing.T) {
	for field, names := range fields() {
		if field == "text" {
			continue
		}
		for _, name := range names {
			for _, other := range []string{name + " ", " " + name, name + ":", name + "s", name[1:], name[:len(name)-1], name + "\x00", name + "\xff", strings.ReplaceAll(name, "-", "") + "-", "x" + name, name + name} {
				wantText(t, other)
			}
			// These runes are letters of the names in another case, but not A to Z.
			for from, to := range map[string]string{"k": "\u212a", "s": "\u017f", "e": "é", "i": "ı", "o": "ο"} {
				if strings.Contains(name, from) {
					wantText(t, strings.ReplaceAll(name, from, to))
				}
			}
		}
	}
	for _, name := range []string{"predepends", "pre_depends", "pre depends", "Depends:", "conflict", "break", "provide", "\xff", "\n", strings.Repeat("x", api.MaxText)} {
		wantText(t, name)
	}
}

// wantText fails, if the field of that name does not have any text.
func wantText(t *testing.T, name string) {
	t.Helper()
	for _, s := range []string{"", "a", "yes", "-1", "aa,", "x y\x00\xff\n"} {
		if v, e := Read(name, s); e != api.OK || !same(v, OfText(s)) {
			t.Errorf("Read(%.50q, %q) = %v, %d", name, s, v, e)
		}
	}
}

// P8.4: names of packages, and what is none.
func TestReadPackage(t *testing.T) {
	long := strings.Repeat("a", api.MaxName)
	for _, s := range []string{"aa", "libc6", "g++", "0-.+", long} {
		wantRead(t, "name", s, OfText(s))
	}
	for _, s := range []string{"", "a", "C", "AA", "-aa", "aa ", " aa", "aa bb", "aa\t", "a_b", "aé", "a\xff", long + "a"} {
		wantError(t, "name", s, api.ErrForm)
	}
}

// P8.4: versions, as they were written, and what is none.
func TestReadVersion(t *testing.T) {
	long := strings.Repeat("1", api.MaxVersion)
	for _, s := range []string{"1", "0", "1-1", "1:2.0~rc1-3", "007", "0:1-0", long} {
		wantRead(t, "version", s, OfText(s))
	}
	for _, s := range []string{"", "x", "1-", ":1", "1 ", " 1", "1_2", "1\xff", "1234567890:1", long + "1"} {
		wantError(t, "version", s, api.ErrForm)
	}
}

// P8.4: yes and no alone are a yes.
func TestReadYes(t *testing.T) {
	wantRead(t, "yes", "yes", OfYes(true))
	wantRead(t, "yes", "no", OfYes(false))
	for _, s := range append(cases("yes"), cases("no")...) {
		if s != "yes" && s != "no" {
			wantError(t, "yes", s, api.ErrForm)
		}
	}
	for _, s := range []string{"", "y", "n", "yes ", " yes", "no\t", "yesno", "yes no", "true", "false", "1", "0", "none", "yes\x00"} {
		wantError(t, "yes", s, api.ErrForm)
	}
}

// P8.4: decimals of 1 to 9 digits without needless noughts are a count.
func TestReadCount(t *testing.T) {
	for s, n := range map[string]int{"0": 0, "1": 1, "9": 9, "10": 10, "12": 12, "100000000": 100000000, "999999999": 999999999, "123456789": 123456789} {
		wantRead(t, "count", s, OfCount(n))
	}
	for _, s := range []string{"", "-1", "-0", "+1", "00", "01", "1000000000", "0000000001", "9999999999", strings.Repeat("9", 30), "1 ", " 1", "1.0", "1e3", "0x1", "1_0", "x", "１", "1\xff"} {
		wantError(t, "count", s, api.ErrForm)
	}
}

// P8.4: relations, and those of no clauses.
func TestReadRelations(t *testing.T) {
	wantRead(t, "clauses", "aa(>=1)|bb , cc (<< 2)", OfClauses(someClauses()))
	wantRead(t, "clauses", "aa, aa", OfClauses([]api.Clause{{{Name: "aa"}}, {{Name: "aa"}}}))
	wantRead(t, "atoms", "aa,bb\t(=1:2~-3)", OfAtoms(someAtoms()))
	wantRead(t, "atoms", "aa (>> 1)", OfAtoms([]api.Atom{{Name: "aa", Rel: api.RGt, Version: "1"}}))
	wantRead(t, "provides", " aa ( = 2 ), bb ", OfProvides(someProvides()))
	for _, s := range []string{"", " ", "\t \t"} {
		wantRead(t, "clauses", s, OfClauses(nil))
		wantRead(t, "atoms", s, OfAtoms(nil))
		wantRead(t, "provides", s, OfProvides(nil))
	}
}

// P8.4: the errors of relations are told as they are, and nothing of what was read ahead of them.
func TestReadRelationErrors(t *testing.T) {
	for _, s := range []string{"a", "aa,", "aa bb", "aa (1)", "aa (= x)", ",", "|", "aa, bb (", "aa\xff", "aa, | bb"} {
		wantError(t, "clauses", s, api.ErrForm)
		wantError(t, "atoms", s, api.ErrForm)
		wantError(t, "provides", s, api.ErrForm)
	}
	wantError(t, "atoms", "aa | bb", api.ErrForm)
	wantError(t, "provides", "aa | bb", api.ErrForm)
	wantError(t, "provides", "aa, bb (>= 1)", api.ErrForm)
	full := "aa" + strings.Repeat(", aa", api.MaxClauses-1)
	row := make([]api.Atom, api.MaxClauses)
	for i := range row {
		row[i].Name = "aa"
	}
	wantRead(t, "atoms", full, OfAtoms(row))
	for _, field := range []string{"clauses", "atoms", "provides"} {
		wantError(t, field, full+", aa", api.ErrMany)
		wantError(t, field, full+",", api.ErrMany)
		wantError(t, field, "x,"+full, api.ErrForm)
	}
	wide := "aa" + strings.Repeat(" | aa", api.MaxAtoms-1)
	wantRead(t, "clauses", wide, OfClauses([]api.Clause{row[:api.MaxAtoms]}))
	wantError(t, "clauses", wide+" | aa", api.ErrMany)
	wantError(t, "clauses", "bb, "+wide+"|", api.ErrMany)
}

// wantWrite fails, if Write of v does not tell that text.
func wantWrite(t *testing.T, v Value, want string) {
	t.Helper()
	if s, ok := Write(v); s != want || !ok {
		t.Errorf("Write(%v) = %.200q, %t; want %.200q", v, s, ok, want)
	}
}

// wantUnwritten fails, if v is written.
func wantUnwritten(t *testing.T, v Value) {
	t.Helper()
	if s, ok := Write(v); s != "" || ok {
		t.Errorf("Write(%v) = %.200q, %t", v, s, ok)
	}
}

// P8.4: texts, counts and yes are written, whatever they are.
func TestWrite(t *testing.T) {
	for _, s := range []string{"", "a", "yes", "12", "any text \xff\x00\n", strings.Repeat("a", api.MaxText+1)} {
		wantWrite(t, OfText(s), s)
	}
	for s, n := range map[string]int{"0": 0, "7": 7, "-7": -7, "1000000000": 1000000000, "9223372036854775807": math.MaxInt, "-9223372036854775808": math.MinInt} {
		wantWrite(t, OfCount(n), s)
	}
	wantWrite(t, OfYes(true), "yes")
	wantWrite(t, OfYes(false), "no")
	wantUnwritten(t, Value{})
}

// P8.4: lists are written as relation writes them, empty ones as an empty text.
func TestWriteLists(t *testing.T) {
	wantWrite(t, OfClauses(someClauses()), "aa (>= 1) | bb, cc (<< 2)")
	wantWrite(t, OfAtoms(someAtoms()), "aa, bb (= 1:2~-3)")
	wantWrite(t, OfProvides(someProvides()), "aa (= 2), bb")
	for _, v := range []Value{OfClauses(nil), OfClauses([]api.Clause{}), OfAtoms(nil), OfAtoms([]api.Atom{}), OfProvides(nil), OfProvides([]api.Provide{})} {
		wantWrite(t, v, "")
	}
}

// P8.4: lists that have no text: of what may not be, of an empty clause, of too many.
func TestWriteLacks(t *testing.T) {
	bad := []api.Atom{{}, {Name: "a"}, {Name: "aa", Rel: api.REq}, {Name: "aa", Version: "1"}, {Name: "aa", Rel: 6, Version: "1"}, {Name: "aa", Rel: -1, Version: "1"}, {Name: "aa", Rel: api.REq, Version: "x"}}
	good := api.Atom{Name: "aa"}
	for _, a := range bad {
		for _, row := range [][]api.Atom{{a}, {a, good}, {good, a}, {good, a, good}} {
			wantUnwritten(t, OfAtoms(row))
			wantUnwritten(t, OfClauses([]api.Clause{row}))
			wantUnwritten(t, OfClauses([]api.Clause{{good}, row}))
		}
	}
	for _, l := range [][]api.Clause{{nil}, {{}}, {{}, {}}, {{good}, {}}, {{}, {good}}} {
		wantUnwritten(t, OfClauses(l))
	}
	for _, p := range []api.Provide{{}, {Name: "a"}, {Name: "aa", Version: "x"}, {Version: "1"}} {
		wantUnwritten(t, OfProvides([]api.Provide{p}))
		wantUnwritten(t, OfProvides([]api.Provide{{Name: "aa"}, p}))
		wantUnwritten(t, OfProvides([]api.Provide{p, {Name: "aa"}}))
	}
	long := slices.Repeat([]api.Atom{good}, api.MaxClauses+1)
	wantWrite(t, OfAtoms(long[1:]), relation.Atoms(long[1:]))
	wantUnwritten(t, OfAtoms(long))
	wantUnwritten(t, OfProvides(slices.Repeat([]api.Provide{{Name: "aa"}}, api.MaxClauses+1)))
	wantUnwritten(t, OfClauses(slices.Repeat([]api.Clause{{good}}, api.MaxClauses+1)))
	wantUnwritten(t, OfClauses([]api.Clause{long[:api.MaxAtoms+1]}))
}
