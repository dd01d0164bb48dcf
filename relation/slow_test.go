package relation

import (
	"regexp"
	"strings"
	"testing"

	"chandler/api"
	"chandler/text"
	"chandler/version"
)

// rows tells each row of up to n of these parts.
func rows(n int, parts ...string) []string {
	all, last := []string{""}, []string{""}
	for range n {
		var next []string
		for _, s := range last {
			for _, p := range parts {
				next = append(next, s+p)
			}
		}
		all, last = append(all, next...), next
	}
	return all
}

// picks is a row of numbers that goes every which way, but always the same one.
type picks uint32

// pick tells the next number, at least 0 and below n.
func (p *picks) pick(n int) int {
	*p = *p*1664525 + 1013904223
	return int(*p>>8) % n
}

// form is the grammar's atom in one pattern: name, sign, version.
var form = regexp.MustCompile(`^[ \t]*([-+.0-9a-z]+)[ \t]*(?:\([ \t]*(<<|<=|=|>=|>>)[ \t]*([-:.+~0-9A-Za-z]+)[ \t]*\)[ \t]*)?$`)

// slowAtom tells the atom that is all of s by the pattern.
func slowAtom(s string) (api.Atom, bool) {
	m := form.FindStringSubmatch(s)
	if m == nil || !text.Name(m[1]) {
		return api.Atom{}, false
	}
	if m[2] == "" {
		return anyOf(m[1]), true
	}
	if _, _, _, e := version.Parse(m[3]); e != api.OK {
		return api.Atom{}, false
	}
	return atomOf(m[1], version.Rel(m[2]), m[3]), true
}

// slowClauses tells the clauses of s, however many: neither sign between can stand within an atom.
func slowClauses(s string) (l []api.Clause, ok bool) {
	if strings.Trim(s, " \t") == "" {
		return nil, true
	}
	for _, part := range strings.Split(s, ",") {
		var c api.Clause
		for _, atom := range strings.Split(part, "|") {
			a, ok := slowAtom(atom)
			if !ok {
				return nil, false
			}
			c = append(c, a)
		}
		l = append(l, c)
	}
	return l, true
}

// slowParse tells what Parse has to: there are too many just where what is ahead of a sign between is a relation that is full.
func slowParse(s string) ([]api.Clause, api.Errno) {
	for i, c := range s {
		if c != ',' && c != '|' {
			continue
		}
		l, ok := slowClauses(s[:i])
		if !ok || len(l) == 0 {
			return nil, api.ErrForm
		}
		if c == ',' && len(l) == api.MaxClauses || c == '|' && len(l[len(l)-1]) == api.MaxAtoms {
			return nil, api.ErrMany
		}
	}
	l, ok := slowClauses(s)
	if !ok {
		return nil, api.ErrForm
	}
	return l, api.OK
}

// slowAtoms tells what ParseAtoms has to: what is ahead of the first | may have too many already.
func slowAtoms(s string) ([]api.Atom, api.Errno) {
	ahead, _, found := strings.Cut(s, "|")
	clauses, e := slowParse(ahead)
	if e == api.OK && found {
		e = api.ErrForm
	}
	if e != api.OK {
		return nil, e
	}
	var l []api.Atom
	for _, c := range clauses {
		l = append(l, c...)
	}
	return l, api.OK
}

// slowProvides tells what ParseProvides has to: what is ahead of the last comma ahead of a sign that may not be may have too many already.
func slowProvides(s string) ([]api.Provide, api.Errno) {
	if at := strings.IndexAny(s, "<>"); at >= 0 {
		comma := strings.LastIndex(s[:at], ",")
		if _, e := slowAtoms(s[:comma+1]); e == api.ErrMany {
			return nil, e
		}
		return nil, api.ErrForm
	}
	atoms, e := slowAtoms(s)
	var l []api.Provide
	for _, a := range atoms {
		l = append(l, api.Provide{Name: a.Name, Version: a.Version})
	}
	return l, e
}

// hold fails, if of s anything else is told than the slow reading tells.
func hold(t *testing.T, s string) {
	t.Helper()
	if clauses, e := slowParse(s); e == api.OK {
		wantClauses(t, s, clauses...)
	} else {
		wantError(t, s, e)
	}
	atoms, e := slowAtoms(s)
	wantList(t, ParseAtoms, s, atoms, e)
	provides, e := slowProvides(s)
	wantList(t, ParseProvides, s, provides, e)
	want, ok := slowAtom(s)
	if got, e := ParseAtom(s); got != want || ok && e != api.OK || !ok && e != api.ErrForm {
		t.Errorf("ParseAtom(%q) = %v, %d; want %v, %v", s, got, e, want, ok)
	}
}

// P7.2: each row of up to five of the parts at which the reading turns, and of up to four within brackets, against the pattern.
func TestParseRows(t *testing.T) {
	for _, s := range rows(5, "aa", "x", "(", ")", "=1", ",", "|", " ") {
		hold(t, s)
	}
	for _, s := range rows(4, "1", "(", ")", "=", "<", ">", ",", "|", "\t") {
		hold(t, "aa("+s)
		hold(t, "aa("+s+")")
		hold(t, "aa(="+s)
	}
}

// longRow tells a row of parts that is mostly in order, so that many are near the limits.
func longRow(p *picks) string {
	atoms := []string{"aa", "bb (= 1)", "cc(=2)", " dd ", "ee (= 1:2~-3)"}
	odd := []string{"", "x", "aa (", "aa (= 1", "(1)", "aa bb", "aa (= 1))", "\xff", "aa (>= 1)"}
	var b strings.Builder
	bars := p.pick(4)
	for range 1 + p.pick(24) {
		if p.pick(25) == 0 {
			b.WriteString(odd[p.pick(len(odd))])
		} else {
			b.WriteString(atoms[p.pick(len(atoms))])
		}
		if p.pick(4) < bars {
			b.WriteByte('|')
		} else {
			b.WriteByte(',')
		}
	}
	return b.String()[:b.Len()-p.pick(2)]
}

// P7.2: long rows of atoms, most of them good, against the pattern; of each error there are many.
func TestParseLongRows(t *testing.T) {
	p := picks(7)
	of := map[string]map[api.Errno]int{"Parse": {}, "ParseAtoms": {}, "ParseProvides": {}}
	for range 8000 {
		s := longRow(&p)
		hold(t, s)
		_, e := Parse(s)
		of["Parse"][e]++
		_, e = ParseAtoms(s)
		of["ParseAtoms"][e]++
		_, e = ParseProvides(s)
		of["ParseProvides"][e]++
	}
	for call, errors := range of {
		for _, e := range []api.Errno{api.OK, api.ErrForm, api.ErrMany} {
			if errors[e] < 200 {
				t.Errorf("%s: of %d only %d rows", call, e, errors[e])
			}
		}
	}
}

// P7.2: whatever the bytes are, each call ends, without a panic, and tells what the pattern tells.
func TestParseAnyBytes(t *testing.T) {
	p := picks(3)
	const signs = "aab1(<=>)|, \t\xff\x80\xc3\n"
	for range 20000 {
		b := make([]byte, p.pick(40))
		for i := range b {
			b[i] = signs[p.pick(len(signs))]
		}
		hold(t, string(b))
	}
	for _, part := range []string{"a", "aa", " ", "(", "=", "<", "aa,", "aa|", "aa (= 1),", "\xff", ","} {
		s := strings.Repeat(part, 1<<18)
		ParseAtom(s)
		for _, e := range errorsOf(s) {
			if (e == api.OK) != (part == " ") {
				t.Errorf("%q, again and again: %d", part, e)
			}
		}
	}
}

// errorsOf tells the errors of the calls that read a relation.
func errorsOf(s string) []api.Errno {
	_, a := Parse(s)
	_, b := ParseAtoms(s)
	_, c := ParseProvides(s)
	return []api.Errno{a, b, c}
}
