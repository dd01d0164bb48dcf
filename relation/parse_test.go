package relation

import (
	"maps"
	"slices"
	"strings"
	"testing"

	"chandler/api"
)

// anyOf tells an atom of any version.
func anyOf(name string) api.Atom {
	return api.Atom{Name: name}
}

// atomOf tells an atom of that relation to a version.
func atomOf(name string, rel int, version string) api.Atom {
	return api.Atom{Name: name, Rel: rel, Version: version}
}

// wantClauses fails, if Parse(s) does not tell these clauses.
func wantClauses(t *testing.T, s string, want ...api.Clause) {
	t.Helper()
	got, e := Parse(s)
	same := slices.EqualFunc(got, want, func(a, b api.Clause) bool { return slices.Equal(a, b) })
	if e != api.OK || !same {
		t.Errorf("Parse(%.200q) = %v, %d; want %v", s, got, e, want)
	}
}

// wantOne fails, if s is not an atom, a relation of it alone, and a row of it alone.
func wantOne(t *testing.T, s string, want api.Atom) {
	t.Helper()
	if got, e := ParseAtom(s); got != want || e != api.OK {
		t.Errorf("ParseAtom(%.200q) = %v, %d; want %v", s, got, e, want)
	}
	wantClauses(t, s, api.Clause{want})
	wantAtoms(t, s, want)
}

// wantNone fails, if s is an atom, or Parse or ParseAtoms does not tell ErrForm of it.
func wantNone(t *testing.T, s string) {
	t.Helper()
	if got, e := ParseAtom(s); got != (api.Atom{}) || e != api.ErrForm {
		t.Errorf("ParseAtom(%.200q) = %v, %d; want ErrForm", s, got, e)
	}
	wantError(t, s, api.ErrForm)
	wantAtomsError(t, s, api.ErrForm)
	wantProvidesError(t, s, api.ErrForm)
}

// wantError fails, if Parse does not tell that error of s, and nothing beside it.
func wantError(t *testing.T, s string, want api.Errno) {
	t.Helper()
	if got, e := Parse(s); got != nil || e != want {
		t.Errorf("Parse(%.200q) = %v, %d; want %d", s, got, e, want)
	}
}

// signs tells how each relation is written.
func signs() map[int]string {
	return map[int]string{api.RLt: "<<", api.RLe: "<=", api.REq: "=", api.RGe: ">=", api.RGt: ">>"}
}

// P7.2: the empty text, and one of nothing but white space, is no clauses.
func TestParseNothing(t *testing.T) {
	for _, s := range []string{"", " ", "\t", " \t ", "\t\t", strings.Repeat(" \t", api.MaxText)} {
		if l, e := Parse(s); len(l) != 0 || e != api.OK {
			t.Errorf("Parse(%.20q) = %v, %d", s, l, e)
		}
		if l, e := ParseAtoms(s); len(l) != 0 || e != api.OK {
			t.Errorf("ParseAtoms(%.20q) = %v, %d", s, l, e)
		}
		if l, e := ParseProvides(s); len(l) != 0 || e != api.OK {
			t.Errorf("ParseProvides(%.20q) = %v, %d", s, l, e)
		}
		if a, e := ParseAtom(s); a != (api.Atom{}) || e != api.ErrForm {
			t.Errorf("ParseAtom(%.20q) = %v, %d", s, a, e)
		}
	}
}

// P7.2: clauses of one and more atoms, with and without versions.
func TestParseOrdinary(t *testing.T) {
	wantClauses(t, "aa", api.Clause{anyOf("aa")})
	wantClauses(t, "aa (>= 1) | bb, cc(<<2)", api.Clause{atomOf("aa", api.RGe, "1"), anyOf("bb")}, api.Clause{atomOf("cc", api.RLt, "2")})
	wantClauses(t, "aa, bb, aa", api.Clause{anyOf("aa")}, api.Clause{anyOf("bb")}, api.Clause{anyOf("aa")})
	wantClauses(t, "aa | bb | aa", api.Clause{anyOf("aa"), anyOf("bb"), anyOf("aa")})
	wantClauses(t, "aa | bb (= 1:2~-3), cc | dd", api.Clause{anyOf("aa"), atomOf("bb", api.REq, "1:2~-3")}, api.Clause{anyOf("cc"), anyOf("dd")})
	wantClauses(t, "libc6 (>= 2.36-9+deb12u4), g++ | c.-+ (<= 007:1a-b)",
		api.Clause{atomOf("libc6", api.RGe, "2.36-9+deb12u4")}, api.Clause{anyOf("g++"), atomOf("c.-+", api.RLe, "007:1a-b")})
}

// P7.2: what is told is the version as it was written.
func TestParseAsWritten(t *testing.T) {
	for _, version := range []string{"01", "0:1", "00:1-0", "1.0-0", "1:2:3-4-5"} {
		wantOne(t, "aa (= "+version+")", atomOf("aa", api.REq, version))
	}
}

// P7.2: white space may stand between any two parts, at the beginning and at the end; it must nowhere.
func TestParseWhite(t *testing.T) {
	parts := []string{"aa", "(", ">=", "1", ")", "|", "bb", ",", "cc", "(", "=", "2", ")"}
	want := []api.Clause{{atomOf("aa", api.RGe, "1"), anyOf("bb")}, {atomOf("cc", api.REq, "2")}}
	for _, white := range []string{"", " ", "\t", "  ", " \t", "\t \t"} {
		wantClauses(t, white+strings.Join(parts, white)+white, want...)
		wantClauses(t, strings.Join(parts, white), want...)
		for i := range len(parts) + 1 {
			wantClauses(t, strings.Join(parts[:i], "")+white+strings.Join(parts[i:], ""), want...)
		}
	}
}

// P7.2: white space within a sign, a name, a version is none.
func TestParseWhiteWithin(t *testing.T) {
	for _, white := range []string{" ", "\t", "  "} {
		for _, sign := range []string{"<<", "<=", ">=", ">>"} {
			wantNone(t, "aa ("+sign[:1]+white+sign[1:]+" 1)")
		}
		wantNone(t, "aa"+white+"bb")
		wantNone(t, "aa"+white+"b")
		wantNone(t, "a"+white+"a")
		wantNone(t, "aa (= 1"+white+"1)")
		wantNone(t, "aa (= 1:"+white+"1)")
		wantNone(t, "aa (= 1"+white+"-1)")
		wantNone(t, "aa (= 1)"+white+"bb")
		wantNone(t, "aa (= 1)"+white+"(= 1)")
	}
}

// P7.2: each sign, with and without white space around it; and what is no sign: each row of up to three of their bytes but the five.
func TestParseSigns(t *testing.T) {
	for rel, sign := range signs() {
		wantOne(t, "aa("+sign+"1)", atomOf("aa", rel, "1"))
		wantOne(t, "aa ( "+sign+" 1 )", atomOf("aa", rel, "1"))
	}
	good := slices.Collect(maps.Values(signs()))
	for _, row := range rows(3, "<", "=", ">") {
		if !slices.Contains(good, row) {
			wantNone(t, "aa ("+row+" 1)")
			wantNone(t, "aa("+row+"1)")
		}
		wantNone(t, "aa "+row+" 1")
		wantNone(t, "aa ("+row+")")
		if row != "" {
			wantNone(t, "aa "+row)
			wantNone(t, row+" aa")
		}
	}
	for _, sign := range []string{"!=", "=!", "~", ":", "~=", "≤", "≥", "&", "<<<<", "== ="} {
		wantNone(t, "aa ("+sign+" 1)")
	}
	wantNone(t, "aa (= = 1)")
	wantNone(t, "aa (>= << 1)")
	wantNone(t, "aa (= 1 =)")
	wantNone(t, "aa (1 =)")
}

// P7.2: a clause or an atom of nothing: a sign between at the beginning, at the end, twice.
func TestParseEmptyParts(t *testing.T) {
	for _, between := range []string{",", "|", ", ", " | ", "\t,\t"} {
		wantNone(t, between)
		wantNone(t, between+"aa")
		wantNone(t, "aa"+between)
		wantNone(t, "aa (= 1)"+between)
		wantNone(t, between+"aa"+between)
		for _, other := range []string{",", "|", " ,", " |"} {
			wantNone(t, between+other)
			wantNone(t, "aa"+between+other+"bb")
			wantNone(t, "aa (= 1)"+between+other+"bb")
			wantNone(t, "aa"+between+"bb"+between+other+"cc")
		}
	}
}

// P7.2: a bracket that is not closed, closed twice, not opened, opened twice, empty, that has a sign or a version alone.
func TestParseBrackets(t *testing.T) {
	for _, s := range []string{
		"aa (", "aa (=", "aa (= 1", "aa (= 1 ", "aa (= 1, bb", "aa (= 1 | bb", "aa (= 1 (", "aa (= 1]", "aa [= 1]",
		"aa (= 1))", "aa (= 1) )", "aa )", "aa)", ")", "aa = 1)", "aa 1)", "aa )= 1(", "(aa)", "(aa (= 1))",
		"aa ((= 1)", "aa ((= 1))", "aa (= (1))", "aa (= 1)(= 2)", "aa (= 1) (= 2)", "aa (= 1)()", "aa (= 1) bb", "aa (= 1)bb",
		"aa ()", "aa ( )", "aa()", "()", "(", "(= 1)", "( = 1 ) aa", ", (= 1)",
		"aa (=)", "aa (>=)", "aa (>= )", "aa (1)", "aa ( 1 )", "aa (1)", "aa (= 1 2)", "aa (= 1,2)", "aa (= 1|= 2)", "aa (= bb)", "aa (bb)",
		"aa = 1", "aa >= 1", "aa 1", "aa=1", "aa >=1", "aa (= 1; = 2)",
	} {
		wantNone(t, s)
		wantNone(t, "bb, "+s)
		wantNone(t, "bb | "+s)
		wantNone(t, s+", bb")
		wantNone(t, s+" | bb")
	}
}

// P7.2: names of no, one, two, MaxName bytes and one more, and what is none.
func TestParseNames(t *testing.T) {
	long := strings.Repeat("a", api.MaxName)
	for _, name := range []string{"aa", "a0", "0a", "00", "a+", "a-", "a.", "a+.-b", "1.2", long, long[1:] + "-"} {
		wantOne(t, name, anyOf(name))
		wantOne(t, name+"(= 1)", atomOf(name, api.REq, "1"))
	}
	for _, name := range []string{
		"a", "0", "A", "AA", "aA", "Aa", "+a", "-a", ".a", "+", "a_b", "a:b", "a~", "aa:any", "aa/bb", "a*", "#aa", "aa!", "\"aa\"", "aa[x]", "${aa}", "aa;", "aa&bb",
		long + "a", long + long, strings.Repeat("a", api.MaxText), "é", "aé", "éa", "aа", "ａａ",
	} {
		wantNone(t, name)
		wantNone(t, name+" (= 1)")
		wantNone(t, "bb, "+name)
		wantNone(t, "bb | "+name)
		wantNone(t, name+", bb")
	}
}

// P7.2: versions of MaxVersion bytes and one more, and what is none.
func TestParseVersions(t *testing.T) {
	long := strings.Repeat("1", api.MaxVersion)
	for _, version := range []string{"0", "1", "1~", "1.0~rc1+b1-2.3~4", "123456789:1", "1:2:3-4", "1-A", long, "1:" + long[2:], long[:46] + "-1"} {
		for rel, sign := range signs() {
			wantOne(t, "aa ("+sign+" "+version+")", atomOf("aa", rel, version))
		}
	}
	for _, version := range []string{
		long + "1", long + long, strings.Repeat("1", api.MaxText), "a", "a1", "~1", "-1", "1-", ":1", "1:", "x:1", "1234567890:1", "1_2", "1-a:b", "1é", "１", "1!", "*", "${v}", "1/2", "'1'", "1;",
	} {
		for _, sign := range signs() {
			wantNone(t, "aa ("+sign+" "+version+")")
			wantNone(t, "aa("+sign+version+")")
		}
	}
}

// P7.2: each byte at each place of a relation that is otherwise good, bytes that are no characters, and white space other than a space and a tab.
func TestParseOtherSigns(t *testing.T) {
	bad := []string{"\n", "\r", "\v", "\f", "\x00", "\x7f", "\x80", "\xff", "\xc3", "\xe2\x82", "é", "\ufffd", "\u0085", "\u00a0", "\u2003", "\u3000", "\ufeff", "，", "｜", "（", "＝", "；", "\U0001f600"}
	for c := range 256 {
		sign := string([]byte{byte(c)})
		if !strings.Contains("abcdefghijklmnopqrstuvwxyz0123456789+-.~:ABCDEFGHIJKLMNOPQRSTUVWXYZ,|()<=> \t", sign) {
			bad = append(bad, sign)
		}
	}
	const whole = "aa ( >= 1 ) | bb , cc (= 2)"
	for _, sign := range bad {
		for i := range len(whole) + 1 {
			wantNone(t, whole[:i]+sign+whole[i:])
		}
		wantNone(t, sign)
		wantNone(t, " "+sign+" ")
	}
}
