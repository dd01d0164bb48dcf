package cnf

import (
	"slices"
	"testing"

	"chandler/api"
)

// P13.2: a copy has the same variables and clauses.
func TestCopy(t *testing.T) {
	for _, s := range []*Set{New(-1), New(3), set(t, 0, nil), set(t, 3, lits(1, -2), nil, lits(3)), filled(t, 5000)} {
		c := s.Copy()
		if c == s || c.Vars() != s.Vars() {
			t.Errorf("%d variables; want %d", c.Vars(), s.Vars())
		}
		wantClauses(t, c, clauses(s)...)
	}
	full := filled(t, 5000).Copy()
	if full.Add(nil) || full.AtMost(nil) {
		t.Error("a copy has room that there is not")
	}
}

// P13.2: what is Added to a copy does not come to what it was copied from, nor the other way round.
func TestCopyChanged(t *testing.T) {
	for n := range 20 {
		s := set(t, 3, slices.Repeat([][]api.Lit{{1, 2}}, n)...)
		before := clauses(s)
		first, second := s.Copy(), s.Copy()
		if !first.Add(lits(1)) || !s.Add(lits(-2)) || !second.AtMost(lits(2, 3, 1)) {
			t.Fatal("refused")
		}
		again := first.Copy()
		again.Add(lits(3))
		first.Add(nil)
		wantClauses(t, s, append(before, lits(-2))...)
		wantClauses(t, first, append(before, lits(1), nil)...)
		wantClauses(t, second, append(before, lits(-2, -3), lits(-1, -2), lits(-1, -3))...)
		wantClauses(t, again, append(before, lits(1), lits(3))...)
		wantHolds(t, s, []bool{true}, true)
		wantHolds(t, first, []bool{true}, false)
	}
}

// P13.1, P13.2, P13.3 with R2: what is handed in is not changed.
func TestHandedIn(t *testing.T) {
	for _, c := range [][]api.Lit{{3, -1, 3}, {3, 1, 2, -3}, {2, 0, 1}, {3, 2, 1}, {9, 1}, {least, 1}} {
		before := slices.Clone(c)
		s := set(t, 3, lits(2, 1))
		Tidy(c)
		s.Add(c)
		s.AtMost(c)
		if !slices.Equal(c, before) {
			t.Errorf("%v is now %v", before, c)
		}
	}
	m := []bool{true, false, true}
	set(t, 3, lits(-1), lits(2, -3)).Holds(m)
	if !slices.Equal(m, []bool{true, false, true}) {
		t.Error(m)
	}
}

// P13.1, P13.2 with R2: what was handed in may be changed behind the call; what was made of it is as it was.
func TestHandedInSpoilt(t *testing.T) {
	sorted, s := lits(-1, 2, 3), New(3)
	told, _ := Tidy(sorted)
	s.Add(sorted)
	s.AtMost(sorted)
	spoil(sorted, 1)
	if !slices.Equal(told, lits(-1, 2, 3)) {
		t.Error(told)
	}
	wantClauses(t, s, lits(-1, 2, 3), lits(1, -2), lits(1, -3), lits(-2, -3))
}

// P13.3 with R2: of a model nothing is kept.
func TestModelSpoilt(t *testing.T) {
	s, m := set(t, 2, lits(1), lits(-2)), []bool{true, false}
	wantHolds(t, s, m, true)
	spoil(m, true)
	wantHolds(t, s, m, false)
	wantHolds(t, s, []bool{true, false}, true)
}

// P13.1 with R2: what Tidy told may be changed; what was handed in, and other answers, are as they were.
func TestTidySpoilt(t *testing.T) {
	for _, c := range [][]api.Lit{{-1, 2, 3}, {3, 2, 3}, {5}} {
		before := slices.Clone(c)
		first, _ := Tidy(c)
		second, _ := Tidy(c)
		want := slices.Clone(second)
		spoil(first, 99)
		if !slices.Equal(c, before) || !slices.Equal(second, want) {
			t.Errorf("of %v: %v, %v", before, c, second)
		}
	}
}

// P13.2 with R2: what At told may be changed; the clauses are as they were, also those of copies.
func TestAtSpoilt(t *testing.T) {
	s := set(t, 3, lits(3, -1, 3), lits(2), nil)
	c := s.Copy()
	for _, x := range []*Set{s, c} {
		for i := range x.Len() {
			first, second := x.At(i), x.At(i)
			want := slices.Clone(second)
			spoil(first, -2)
			if !slices.Equal(second, want) {
				t.Errorf("%v; want %v", second, want)
			}
		}
	}
	wantClauses(t, s, lits(-1, 3), lits(2), nil)
	wantClauses(t, c, lits(-1, 3), lits(2), nil)
	wantHolds(t, s, []bool{false, true}, false)
	wantHolds(t, set(t, 3, lits(3, -1, 3), lits(2)), []bool{false, true}, true)
}

// P13.1, P13.2, P13.3 with R2: what lies behind the lengths of lists is neither read nor written.
func TestBehindLength(t *testing.T) {
	l, m := lits(3, -1, 3, 0, 9, 1), []bool{true, false, true}
	s := New(3)
	wantTidy(t, l[:3], lits(-1, 3), true)
	if !s.Add(l[:3]) || !s.AtMost(l[:3]) {
		t.Error("refused")
	}
	wantClauses(t, s, lits(-1, 3), lits(1, -3))
	wantHolds(t, s, m[:1], false)
	wantHolds(t, s, m[:0], true)
	if !slices.Equal(l, lits(3, -1, 3, 0, 9, 1)) || !slices.Equal(m, []bool{true, false, true}) {
		t.Errorf("changed: %v, %v", l, m)
	}
}
