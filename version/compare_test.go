package version

import (
	"strings"
	"testing"

	"chandler/api"
)

// wantCompare fails, if Compare does not tell want of a and b, or Same something else; turned round, too.
func wantCompare(t *testing.T, a, b string, want int) {
	t.Helper()
	if got := Compare(a, b); got != want {
		t.Errorf("Compare(%q, %q) = %d, want %d", a, b, got, want)
	}
	if got := Compare(b, a); got != -want {
		t.Errorf("Compare(%q, %q) = %d, want %d", b, a, got, -want)
	}
	if got := Same(a, b); got != (want == 0) {
		t.Errorf("Same(%q, %q) = %v", a, b, got)
	}
}

// notVersions tells texts that are no versions, of each kind.
func notVersions() []string {
	return []string{"", "x", "a1", "1-", "-1", ":1", "1:", "x:1", "1234567890:1", "1_2", "1-a:b", " 1", "1 ", "1\xff", "~", strings.Repeat("1", api.MaxVersion+1)}
}

// P6.3: the document's examples and what it names.
func TestCompareKnown(t *testing.T) {
	wantCompare(t, "1.09", "1.9", 0)
	wantCompare(t, "1:0.1", "9", 1)
	wantCompare(t, "1.0-1", "1.0", 1)
	wantCompare(t, "1.0~rc1", "1.0", -1)
	wantCompare(t, "1.0", "1.0+b1", -1)
}

// P6.3: epochs by their numbers, ahead of all else; none is 0.
func TestCompareEpochs(t *testing.T) {
	wantCompare(t, "0:1", "1", 0)
	wantCompare(t, "00:1", "1", 0)
	wantCompare(t, "000000000:1", "0:1", 0)
	wantCompare(t, "007:1", "7:1", 0)
	wantCompare(t, "1:1", "000000001:1", 0)
	wantCompare(t, "9:1", "10:0", -1)
	wantCompare(t, "2:0", "010:0", -1)
	wantCompare(t, "999999999:0", "1000000000", 1)
	wantCompare(t, "999999998:9", "999999999:0~", -1)
	wantCompare(t, "1:0~~", "99999999999999999999-9", 1)
	wantCompare(t, "1:1.0-1", "2:0.1", -1)
}

// P6.3: upstream ahead of the revision, by Part.
func TestCompareUpstreams(t *testing.T) {
	wantCompare(t, "1-9", "2-1", -1)
	wantCompare(t, "1.10-1", "1.9-9", 1)
	wantCompare(t, "1a-1", "1-9", 1)
	wantCompare(t, "1~-9", "1-0", -1)
	wantCompare(t, "1-2-3", "1-3", 1)
	wantCompare(t, "1:2:3", "1:2", 1)
	wantCompare(t, "1:2:3", "1:2:03", 0)
	wantCompare(t, "1:2-3-1", "1:2:3-1", -1)
	wantCompare(t, "1a", "1B", 1)
	wantCompare(t, "18446744073709551616", "18446744073709551617", -1)
	wantCompare(t, "18446744073709551617", "1", 1)
}

// P6.3: revisions by Part; one that is empty is as 0 and 00 are.
func TestCompareRevisions(t *testing.T) {
	wantCompare(t, "1.0", "1.0-0", 0)
	wantCompare(t, "1.0", "1.0-00", 0)
	wantCompare(t, "1.0-0", "1.0-00", 0)
	wantCompare(t, "1.0-1", "1.0-01", 0)
	wantCompare(t, "1.0-0~", "1.0", -1)
	wantCompare(t, "1.0-~", "1.0", -1)
	wantCompare(t, "1.0-0a", "1.0", 1)
	wantCompare(t, "1.0-a", "1.0-0", 1)
	wantCompare(t, "1.0-+", "1.0-a", 1)
	wantCompare(t, "1.0-2", "1.0-10", -1)
	wantCompare(t, "1.0-1", "1.0-1.1", -1)
}

// P6.3: 0 and never the same, if one or both are no versions.
func TestCompareNoVersions(t *testing.T) {
	for _, a := range notVersions() {
		for _, b := range append(notVersions(), "1", "2:3-4") {
			if Compare(a, b) != 0 || Compare(b, a) != 0 {
				t.Errorf("Compare(%q, %q) = %d, %d", a, b, Compare(a, b), Compare(b, a))
			}
			if Same(a, b) || Same(b, a) {
				t.Errorf("Same(%q, %q)", a, b)
			}
		}
	}
}

// P6.3: Compare of any two rows is what its words say of their parts.
func TestCompareRows(t *testing.T) {
	l := rows(4, ":", "-", "0", "1", "a", "~")
	for _, a := range l {
		epochA, upstreamA, revisionA, errA := Parse(a)
		if errA != api.OK {
			continue
		}
		for _, b := range l {
			epochB, upstreamB, revisionB, errB := Parse(b)
			if errB != api.OK {
				continue
			}
			want := slowPart(epochA, epochB)
			if want == 0 {
				want = slowPart(upstreamA, upstreamB)
			}
			if want == 0 {
				want = slowPart(revisionA, revisionB)
			}
			wantCompare(t, a, b, want)
		}
	}
}

// wantHolds fails, if of the relations RAny to RGt there hold others than those with a y in want.
func wantHolds(t *testing.T, a, b, want string) {
	t.Helper()
	for rel, c := range want {
		if got := Holds(rel, a, b); got != (c == 'y') {
			t.Errorf("Holds(%d, %q, %q) = %v", rel, a, b, got)
		}
	}
}

// P6.4: each relation, of versions that are earlier, the same and later.
func TestHolds(t *testing.T) {
	wantHolds(t, "1", "2", "yyynnn")
	wantHolds(t, "1.0", "1.0", "ynyyyn")
	wantHolds(t, "1.0", "1.00-0", "ynyyyn")
	wantHolds(t, "2", "1", "ynnnyy")
	wantHolds(t, "1:0", "9", "ynnnyy")
	wantHolds(t, "1.0~rc1", "1.0", "yyynnn")
	wantHolds(t, "1.0-0~", "1.0", "yyynnn")
}

// P6.4: RAny asks that a is a version and nothing of b; all others ask that both are.
func TestHoldsNoVersions(t *testing.T) {
	for _, none := range notVersions() {
		wantHolds(t, "1", none, "ynnnnn")
		wantHolds(t, none, "1", "nnnnnn")
		wantHolds(t, none, none, "nnnnnn")
	}
}

// notRelations tells numbers that are no relations.
func notRelations() []int {
	return []int{-1, -5, api.RGt + 1, 7, 255, 256, 257, 1 << 32, 1<<32 + api.REq, -1 << 63, 1<<63 - 1}
}

// P6.4: a relation that there is not never holds, and has no sign.
func TestNoRelation(t *testing.T) {
	for _, rel := range notRelations() {
		for _, x := range [][2]string{{"1", "2"}, {"1", "1"}, {"2", "1"}, {"x", "1"}, {"1", "x"}} {
			if Holds(rel, x[0], x[1]) {
				t.Errorf("Holds(%d, %q, %q)", rel, x[0], x[1])
			}
		}
		if got := Sign(rel); got != "" {
			t.Errorf("Sign(%d) = %q", rel, got)
		}
	}
}

// P6.4: each relation's sign, and back.
func TestSigns(t *testing.T) {
	for rel, sign := range map[int]string{api.RLt: "<<", api.RLe: "<=", api.REq: "=", api.RGe: ">=", api.RGt: ">>"} {
		if got := Sign(rel); got != sign {
			t.Errorf("Sign(%d) = %q, want %q", rel, got, sign)
		}
		if got := Rel(sign); got != rel {
			t.Errorf("Rel(%q) = %d, want %d", sign, got, rel)
		}
	}
	if got := Sign(api.RAny); got != "" {
		t.Errorf("Sign(RAny) = %q", got)
	}
}

// P6.4: what is no sign tells 0: each row of up to three of their bytes but the five, white space, the empty text.
func TestNoSigns(t *testing.T) {
	for _, s := range rows(3, "<", "=", ">", " ", "\t", "\xff", "≥") {
		switch s {
		case "<<", "<=", "=", ">=", ">>":
		default:
			if got := Rel(s); got != 0 {
				t.Errorf("Rel(%q) = %d", s, got)
			}
		}
	}
}
