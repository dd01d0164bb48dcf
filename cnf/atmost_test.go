package cnf

import (
	"slices"
	"testing"

	"chandler/api"
)

// wantAtMost fails, if AtMost(l) of a set of three variables is not true, or does not Add just these clauses.
func wantAtMost(t *testing.T, l []api.Lit, want ...[]api.Lit) {
	t.Helper()
	s := set(t, 3, lits(1, 2, 3))
	if !s.AtMost(l) {
		t.Errorf("AtMost(%v) is false", l)
	}
	wantClauses(t, s, append([][]api.Lit{{1, 2, 3}}, want...)...)
}

// P13.2: for each two unlike literals, in order, the clause of both denials.
func TestAtMost(t *testing.T) {
	wantAtMost(t, lits(1, 2), lits(-1, -2))
	wantAtMost(t, lits(2, 1), lits(-1, -2))
	wantAtMost(t, lits(-3, 1), lits(-1, 3))
	wantAtMost(t, lits(-2, -3), lits(2, 3))
	wantAtMost(t, lits(1, 2, 3), lits(-1, -2), lits(-1, -3), lits(-2, -3))
	wantAtMost(t, lits(3, 1, 2), lits(-1, -3), lits(-2, -3), lits(-1, -2))
	wantAtMost(t, lits(1, -2, 1, 3), lits(-1, 2), lits(-1, -3), lits(2, -3))
}

// P13.2: of no literals, and of one, there are no two.
func TestAtMostFew(t *testing.T) {
	wantAtMost(t, nil)
	wantAtMost(t, lits())
	wantAtMost(t, lits(1))
	wantAtMost(t, lits(-3))
	if s := New(0); !s.AtMost(nil) || s.Len() != 0 {
		t.Error("of no variables")
	}
}

// P13.2: of like ones the first counts, and they are no two.
func TestAtMostLike(t *testing.T) {
	wantAtMost(t, lits(1, 1))
	wantAtMost(t, lits(-2, -2, -2))
	wantAtMost(t, lits(2, 1, 2, 1), lits(-1, -2))
	wantAtMost(t, lits(3, 3, 1, 2, 3), lits(-1, -3), lits(-2, -3), lits(-1, -2))
	wantAtMost(t, lits(3, 1, 3, 1, 2), lits(-1, -3), lits(-2, -3), lits(-1, -2))
}

// P13.2: a literal and its denial are two; their clause always holds, and so is not kept.
func TestAtMostDenial(t *testing.T) {
	wantAtMost(t, lits(1, -1))
	wantAtMost(t, lits(-2, 2, -2, 2))
	wantAtMost(t, lits(1, -1, 2), lits(-1, -2), lits(1, -2))
	wantAtMost(t, lits(2, 1, -2), lits(-1, -2), lits(-1, 2))
	wantAtMost(t, lits(1, 2, -1, -2), lits(-1, -2), lits(-1, 2), lits(1, -2), lits(1, 2))
}

// P13.2: where one literal may not be, nothing is Added, wherever it stands.
func TestAtMostRefused(t *testing.T) {
	s := set(t, 3, lits(1, -3))
	for _, l := range noLiterals() {
		if s.AtMost(l) {
			t.Errorf("AtMost(%v) is true", l)
		}
	}
	if s.AtMost(append(slices.Repeat(lits(1, 2, 3), 50), 4)) {
		t.Error("the last one may not be")
	}
	wantClauses(t, s, lits(1, -3))
	if none := New(0); none.AtMost(lits(1)) || none.AtMost(lits(-1)) || none.AtMost(lits(0)) || none.Len() != 0 {
		t.Error("of no variables")
	}
}

// P13.2: with just as much room as it takes all are Added.
func TestAtMostJustRoom(t *testing.T) {
	s := filled(t, 4997)
	if !s.AtMost(lits(2, 1, 3)) {
		t.Error("three clauses, room for three")
	}
	wantLast(t, s, 5000, lits(api.MaxVars), lits(-1, -2), lits(-2, -3), lits(-1, -3))
	s = filled(t, 4999)
	if !s.AtMost(nil) || !s.AtMost(lits(1)) || !s.AtMost(lits(1, -1)) || !s.AtMost(lits(2, 2)) || s.AtMost(lits(201)) || s.Len() != 4999 {
		t.Errorf("no clauses, room for one: %d", s.Len())
	}
	if !s.AtMost(lits(8, -9, 8)) {
		t.Error("one clause, room for one")
	}
	wantLast(t, s, 5000, lits(api.MaxVars), lits(-8, 9))
}

// P13.2: of more than there is room for as many are Added as there is room for; false.
func TestAtMostMoreThanRoom(t *testing.T) {
	s := filled(t, 4998)
	if s.AtMost(lits(3, 1, 2)) {
		t.Error("three clauses, room for two")
	}
	wantLast(t, s, 5000, lits(api.MaxVars), lits(-1, -3), lits(-2, -3))
	s = filled(t, 4999)
	if s.AtMost(lits(4, -4, 5)) {
		t.Error("two clauses, room for one")
	}
	wantLast(t, s, 5000, lits(api.MaxVars), lits(-4, -5))
}

// P13.2: where room has run out on the way, Add refuses also the clause that always holds.
func TestAtMostAlwaysHoldsWithoutRoom(t *testing.T) {
	s := filled(t, 4998)
	if s.AtMost(lits(1, 2, -2)) {
		t.Error("true")
	}
	wantLast(t, s, 5000, lits(api.MaxVars), lits(-1, -2), lits(-1, 2))
}

// P13.2: where there are 5000 clauses already nothing is taken, not even no literals.
func TestAtMostNoRoom(t *testing.T) {
	s := filled(t, 5000)
	for _, l := range [][]api.Lit{nil, {}, {1}, {1, 1}, {1, -1}, {1, 2}, {0}, {201}} {
		if s.AtMost(l) {
			t.Errorf("AtMost(%v) is true", l)
		}
	}
	wantLast(t, s, 5000, lits(api.MaxVars), lits(api.MaxVars))
}

// P13.2: of as many literals as there are.
func TestAtMostMany(t *testing.T) {
	var l []api.Lit
	for v := range api.Lit(api.MaxVars) {
		l = append(l, v+1)
	}
	s := New(api.MaxVars)
	if !s.AtMost(l[100:]) {
		t.Error("a hundred literals")
	}
	wantLast(t, s, 4950, lits(-198, -199), lits(-198, -200), lits(-199, -200))
	s = New(api.MaxVars)
	if s.AtMost(l) {
		t.Error("200 literals")
	}
	// 1 to 26 have 4849 clauses with those behind them: there is room for 151 of 27.
	wantLast(t, s, 5000, lits(-27, -177), lits(-27, -178))
	if !slices.Equal(s.At(4848), lits(-26, -200)) || !slices.Equal(s.At(4849), lits(-27, -28)) {
		t.Error(s.At(4848), s.At(4849))
	}
}
