package relation

import (
	"regexp"
	"strings"
	"testing"

	"chandler/api"
)

// someAtom tells a good atom.
func someAtom(p *picks) api.Atom {
	names := []string{"aa", "b0", "c+.-", "0d", strings.Repeat("e", api.MaxName)}
	versions := []string{"1", "0", "1:2~-3", "01", "1.0-0", strings.Repeat("9", api.MaxVersion)}
	a := atomOf(names[p.pick(len(names))], p.pick(api.RGt+1), "")
	if a.Rel != api.RAny {
		a.Version = versions[p.pick(len(versions))]
	}
	return a
}

// someClause tells a good clause.
func someClause(p *picks) api.Clause {
	var c api.Clause
	for range 1 + p.pick(api.MaxAtoms) {
		c = append(c, someAtom(p))
	}
	return c
}

// part is what white space must not divide.
var part = regexp.MustCompile(`[,|()]|[<=>]+|[^ ,|()<=>]+`)

// spread tells the parts of s with some white space, or none, around each.
func spread(p *picks, s string) string {
	white := []string{"", " ", "\t", " \t  "}
	out := white[p.pick(len(white))]
	for _, one := range part.FindAllString(s, -1) {
		out += one + white[p.pick(len(white))]
	}
	return out
}

// P7.4: Parse of Text is the clauses, ParseAtoms of Atoms the atoms, ParseAtom of Atom the atom, with any white space.
func TestThereAndBack(t *testing.T) {
	p := picks(74)
	for range 5000 {
		var clauses []api.Clause
		var row []api.Atom
		for range p.pick(api.MaxClauses + 1) {
			clauses, row = append(clauses, someClause(&p)), append(row, someAtom(&p))
		}
		for _, a := range row {
			wantOne(t, Atom(a), a)
			wantOne(t, spread(&p, Atom(a)), a)
		}
		wantClauses(t, Text(clauses), clauses...)
		wantClauses(t, spread(&p, Text(clauses)), clauses...)
		wantAtoms(t, Atoms(row), row...)
		wantAtoms(t, spread(&p, Atoms(row)), row...)
	}
}

// P7.4: ParseProvides of Provides is what was provided, with any white space.
func TestProvidesThereAndBack(t *testing.T) {
	p := picks(75)
	for range 5000 {
		var l []api.Provide
		for range p.pick(api.MaxClauses + 1) {
			a := someAtom(&p)
			l = append(l, api.Provide{Name: a.Name, Version: a.Version})
		}
		wantProvides(t, Provides(l), l...)
		wantProvides(t, spread(&p, Provides(l)), l...)
	}
}

// P7.4: how a relation is written does not hang on how it was, but for the versions.
func TestWrittenAgain(t *testing.T) {
	for s, want := range map[string]string{
		"": "", "\t ": "", "aa(>=1)|bb , cc\t( << 2-1 )": "aa (>= 1) | bb, cc (<< 2-1)", "aa,bb,cc": "aa, bb, cc", "aa|bb|cc": "aa | bb | cc", " aa ( = 01 ) ": "aa (= 01)",
	} {
		l, e := Parse(s)
		if got := Text(l); got != want || e != api.OK {
			t.Errorf("Text of Parse(%q) = %q, %d; want %q", s, got, e, want)
		}
		wantClauses(t, want, l...)
	}
}

// P7.2: what is told is the caller's own: no two of its lists, and no two answers, share memory.
func TestParseNewMemory(t *testing.T) {
	const s = "aa | bb, cc, dd | ee | ff"
	l, _ := Parse(s)
	for _, c := range l {
		// What is written behind the end of one list must not be in another one.
		for i := len(c); i < cap(c); i++ {
			c[:cap(c)][i] = anyOf("yy")
		}
	}
	if got := Text(l); got != s {
		t.Errorf("one list reaches into another one: %q", got)
	}
	for _, c := range l {
		clear(c)
	}
	wantClauses(t, s, api.Clause{anyOf("aa"), anyOf("bb")}, api.Clause{anyOf("cc")}, api.Clause{anyOf("dd"), anyOf("ee"), anyOf("ff")})
	row, _ := ParseAtoms("aa, bb")
	clear(row)
	wantAtoms(t, "aa, bb", anyOf("aa"), anyOf("bb"))
	provides, _ := ParseProvides("aa, bb")
	clear(provides)
	wantProvides(t, "aa, bb", api.Provide{Name: "aa"}, api.Provide{Name: "bb"})
}
