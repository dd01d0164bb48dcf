package relation

import (
	"slices"
	"strings"
	"testing"

	"chandler/api"
)

// wantList fails, if parse does not tell that list and that error of s.
func wantList[T comparable](t *testing.T, parse func(string) ([]T, api.Errno), s string, want []T, wantErr api.Errno) {
	t.Helper()
	if got, e := parse(s); e != wantErr || !slices.Equal(got, want) {
		t.Errorf("%.200q: %v, %d; want %v, %d", s, got, e, want, wantErr)
	}
}

// wantAtoms fails, if ParseAtoms(s) does not tell these atoms.
func wantAtoms(t *testing.T, s string, want ...api.Atom) {
	t.Helper()
	wantList(t, ParseAtoms, s, want, api.OK)
}

// wantAtomsError fails, if ParseAtoms does not tell that error of s, and nothing beside it.
func wantAtomsError(t *testing.T, s string, want api.Errno) {
	t.Helper()
	wantList(t, ParseAtoms, s, nil, want)
}

// wantProvides fails, if ParseProvides(s) does not tell these.
func wantProvides(t *testing.T, s string, want ...api.Provide) {
	t.Helper()
	wantList(t, ParseProvides, s, want, api.OK)
}

// wantProvidesError fails, if ParseProvides does not tell that error of s, and nothing beside it.
func wantProvidesError(t *testing.T, s string, want api.Errno) {
	t.Helper()
	wantList(t, ParseProvides, s, nil, want)
}

// P7.2: ParseAtom takes one atom, all of the text.
func TestParseAtom(t *testing.T) {
	wantOne(t, "aa", anyOf("aa"))
	wantOne(t, "\taa ", anyOf("aa"))
	wantOne(t, " aa\t( >> 1 ) ", atomOf("aa", api.RGt, "1"))
	wantOne(t, "aa(<<1)", atomOf("aa", api.RLt, "1"))
	for _, s := range []string{"", " ", "aa,bb", "aa|bb", "aa, bb", "aa | bb", "aa bb", "aa,", "aa|", ",aa", "|aa", ",", "|", "aa (= 1),", "aa (= 1) | bb", "aa\n"} {
		if a, e := ParseAtom(s); a != (api.Atom{}) || e != api.ErrForm {
			t.Errorf("ParseAtom(%q) = %v, %d", s, a, e)
		}
	}
	// Of more atoms than a clause or a relation may have it tells no other error.
	for _, s := range []string{rowOf("aa", "|", api.MaxAtoms+1), rowOf("aa", ",", api.MaxClauses+1)} {
		if a, e := ParseAtom(s); a != (api.Atom{}) || e != api.ErrForm {
			t.Errorf("ParseAtom(%q) = %v, %d", s, a, e)
		}
	}
}

// P7.2: ParseAtoms takes atoms with a comma between, none with a |.
func TestParseAtoms(t *testing.T) {
	wantAtoms(t, "aa, bb (= 2)", anyOf("aa"), atomOf("bb", api.REq, "2"))
	wantAtoms(t, "aa(<<1),aa\t,\taa (<= 3) ", atomOf("aa", api.RLt, "1"), anyOf("aa"), atomOf("aa", api.RLe, "3"))
	wantAtoms(t, "aa (>= 1), bb (>> 1)", atomOf("aa", api.RGe, "1"), atomOf("bb", api.RGt, "1"))
	for _, s := range []string{"aa|bb", "aa | bb", "cc, aa | bb", "aa | bb, cc", "aa (= 1) | bb", "aa |", "| aa", "aa | ,", "aa, | bb"} {
		wantAtomsError(t, s, api.ErrForm)
	}
}

// P7.2: ParseProvides takes atoms without a sign, or with =.
func TestParseProvides(t *testing.T) {
	wantProvides(t, "aa", api.Provide{Name: "aa"})
	wantProvides(t, "aa, bb (= 2)", api.Provide{Name: "aa"}, api.Provide{Name: "bb", Version: "2"})
	wantProvides(t, " bb(=1:2-3)\t,aa,aa ( = 0 ) ", api.Provide{Name: "bb", Version: "1:2-3"}, api.Provide{Name: "aa"}, api.Provide{Name: "aa", Version: "0"})
	for rel, sign := range signs() {
		s := "aa (" + sign + " 1)"
		if rel == api.REq {
			wantProvides(t, s, api.Provide{Name: "aa", Version: "1"})
			continue
		}
		wantProvidesError(t, s, api.ErrForm)
		wantProvidesError(t, "bb, "+s, api.ErrForm)
		wantProvidesError(t, s+", bb", api.ErrForm)
	}
	for _, s := range []string{"aa|bb", "aa | bb", "cc, aa | bb", "aa | bb, cc", "aa (= 1) | bb", "aa |", "| aa", "aa (= 1) | bb (= 1)"} {
		wantProvidesError(t, s, api.ErrForm)
	}
}

// rowOf tells n times s with that between.
func rowOf(s, between string, n int) string {
	return strings.Join(slices.Repeat([]string{s}, n), between)
}

// behind tells what may stand behind the sign ahead of the one too many: nothing, what is none, a good atom.
func behind() []string {
	return []string{"", " ", "\t", "aa", " aa (= 1)", "x", "aa (", "()", "\xff", ",", "|", ", aa", "| aa", "aa bb", "aa (= 1) | x", strings.Repeat("aa,", api.MaxText)}
}

// P7.2: MaxClauses clauses, and one more: what stands behind the comma ahead of it makes no difference.
func TestParseManyClauses(t *testing.T) {
	for _, atom := range []string{"aa", "aa (= 1)", "aa\t"} {
		full := rowOf(atom, ",", api.MaxClauses)
		if l, e := Parse(full); len(l) != api.MaxClauses || e != api.OK {
			t.Errorf("Parse(%q): %d, %d", full, len(l), e)
		}
		if l, e := ParseAtoms(full); len(l) != api.MaxClauses || e != api.OK {
			t.Errorf("ParseAtoms(%q): %d, %d", full, len(l), e)
		}
		if l, e := ParseProvides(full); len(l) != api.MaxClauses || e != api.OK {
			t.Errorf("ParseProvides(%q): %d, %d", full, len(l), e)
		}
		for _, s := range behind() {
			wantError(t, full+","+s, api.ErrMany)
			wantAtomsError(t, full+","+s, api.ErrMany)
			wantProvidesError(t, full+","+s, api.ErrMany)
		}
		// One less, and a comma: an atom lacks.
		for _, s := range []string{"", " ", "x", "|"} {
			less := rowOf(atom, ",", api.MaxClauses-1) + "," + s
			wantError(t, less, api.ErrForm)
			wantAtomsError(t, less, api.ErrForm)
			wantProvidesError(t, less, api.ErrForm)
		}
	}
}

// P7.2: MaxAtoms atoms of a clause, the first one, the last one, one between, and one more.
func TestParseManyAtoms(t *testing.T) {
	full := rowOf("aa", "|", api.MaxAtoms)
	for ahead := range api.MaxClauses {
		s := strings.Repeat("bb | bb,", ahead) + full
		if l, e := Parse(s); e != api.OK || len(l) != ahead+1 || len(l[ahead]) != api.MaxAtoms {
			t.Errorf("Parse(%q): %v, %d", s, l, e)
		}
		for _, more := range behind() {
			wantError(t, s+"|"+more, api.ErrMany)
			wantAtomsError(t, s+"|"+more, api.ErrForm)
			wantProvidesError(t, s+"|"+more, api.ErrForm)
		}
		wantError(t, strings.TrimSuffix(s, "aa"), api.ErrForm)
	}
	all := rowOf(full, ",", api.MaxClauses)
	if l, e := Parse(all); len(l) != api.MaxClauses || e != api.OK {
		t.Errorf("Parse(%q): %v, %d", all, l, e)
	}
	wantError(t, all+"|", api.ErrMany)
	wantError(t, all+",", api.ErrMany)
	wantError(t, all+" aa", api.ErrForm)
}

// P7.2: of ErrForm and ErrMany the one further left is told.
func TestParseFirstError(t *testing.T) {
	wide := rowOf("aa", "|", api.MaxAtoms+1)
	long := rowOf("aa", ",", api.MaxClauses+1)
	for _, none := range []string{"x", "aa (1)", "aa (= 1", "()", "aa bb", "\xff", "", "aa (= 1))"} {
		wantError(t, none+","+long, api.ErrForm)
		wantError(t, none+"|"+wide, api.ErrForm)
		wantError(t, long+","+none, api.ErrMany)
		wantError(t, wide+"|"+none, api.ErrMany)
		wantError(t, wide+","+none, api.ErrMany)
		wantAtomsError(t, none+","+long, api.ErrForm)
		wantAtomsError(t, long+","+none, api.ErrMany)
		wantProvidesError(t, none+","+long, api.ErrForm)
		wantProvidesError(t, long+","+none, api.ErrMany)
		// The last one that may stand is none.
		wantError(t, rowOf("aa", ",", api.MaxClauses-1)+","+none+",", api.ErrForm)
		wantError(t, rowOf("aa", "|", api.MaxAtoms-1)+"|"+none+"|", api.ErrForm)
		wantAtomsError(t, rowOf("aa", ",", api.MaxClauses-1)+","+none+",", api.ErrForm)
		wantProvidesError(t, rowOf("aa", ",", api.MaxClauses-1)+","+none+",", api.ErrForm)
	}
	// A comma or a | within brackets is no further clause or atom.
	wantError(t, rowOf("aa", ",", api.MaxClauses)+"(= 1, bb", api.ErrForm)
	wantError(t, rowOf("aa", ",", api.MaxClauses)+"(= ,", api.ErrForm)
	wantError(t, rowOf("aa", "|", api.MaxAtoms)+"(= 1| bb", api.ErrForm)
	// Too many atoms in the last clause, and too many clauses behind it.
	wantError(t, rowOf("aa", ",", api.MaxClauses-1)+","+wide+",aa", api.ErrMany)
}

// P7.2: a | and a sign that may not be, ahead of the comma and behind it.
func TestParseKindsFirstError(t *testing.T) {
	full := rowOf("aa", ",", api.MaxClauses)
	less := rowOf("aa", ",", api.MaxClauses-1)
	wantAtomsError(t, full+"| bb, cc", api.ErrForm)
	wantAtomsError(t, full+", bb | cc", api.ErrMany)
	wantAtomsError(t, full+",|", api.ErrMany)
	wantProvidesError(t, full+"| bb, cc", api.ErrForm)
	wantProvidesError(t, full+", bb | cc", api.ErrMany)
	wantProvidesError(t, full+", bb (>= 1)", api.ErrMany)
	wantProvidesError(t, less+", bb (>= 1), cc", api.ErrForm)
	wantProvidesError(t, "bb (>= 1),"+full, api.ErrForm)
}
