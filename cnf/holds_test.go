package cnf

import (
	"testing"

	"chandler/api"
)

// wantHolds fails, if s does not say so of the model m.
func wantHolds(t *testing.T, s *Set, m []bool, want bool) {
	t.Helper()
	if got := s.Holds(m); got != want {
		t.Errorf("%v hold in %v: %v; want %v", clauses(s), m, got, want)
	}
}

// P13.3: no clauses hold in each model, also where there are no variables.
func TestHoldsNoClauses(t *testing.T) {
	for _, n := range []int{-1, 0, 3, api.MaxVars} {
		for _, m := range [][]bool{nil, {}, {false}, {true, false, true}, make([]bool, 300)} {
			wantHolds(t, New(n), m, true)
		}
	}
}

// P13.3: a clause of no literals holds in no model, whatever stands beside it.
func TestHoldsNoLiterals(t *testing.T) {
	for _, s := range []*Set{set(t, 0, nil), set(t, 2, nil), set(t, 2, lits(), lits(-1)), set(t, 2, lits(-1), nil)} {
		for _, m := range append(models(2), nil, models(1)[1], models(3)[7]) {
			wantHolds(t, s, m, false)
		}
	}
}

// P13.3: each clause must hold; a clause does, if one of its literals is so.
func TestHolds(t *testing.T) {
	for _, m := range models(3) {
		a, b, c := m[0], m[1], m[2]
		wantHolds(t, set(t, 3, lits(1)), m, a)
		wantHolds(t, set(t, 3, lits(-2)), m, !b)
		wantHolds(t, set(t, 3, lits(3, -1)), m, c || !a)
		wantHolds(t, set(t, 3, lits(1), lits(2), lits(3)), m, a && b && c)
		wantHolds(t, set(t, 3, lits(1, 2, 3)), m, a || b || c)
		wantHolds(t, set(t, 3, lits(-1, -2, -3)), m, !a || !b || !c)
		wantHolds(t, set(t, 3, lits(1, -2), lits(2, -3), lits(-1, 3)), m, a == b && b == c)
		wantHolds(t, set(t, 3, lits(1), lits(-1)), m, false)
		wantHolds(t, set(t, 3, lits(1, -1), lits(2, 3, -2)), m, true)
	}
}

// P13.3: behind the end of a model that is too short no variable is so.
func TestHoldsShortModel(t *testing.T) {
	s := set(t, 3, lits(1, 2), lits(-3))
	for _, m := range models(3) {
		short := m
		for len(short) > 0 && !short[len(short)-1] {
			short = short[:len(short)-1]
			wantHolds(t, s, short, (m[0] || m[1]) && !m[2])
		}
	}
	wantHolds(t, set(t, 3, lits(3)), []bool{true, true}, false)
	wantHolds(t, set(t, 3, lits(-3)), []bool{true, true}, true)
	wantHolds(t, set(t, 3, lits(-3)), nil, true)
	wantHolds(t, set(t, 3, lits(1)), nil, false)
	wantHolds(t, set(t, 3, lits(1)), []bool{}, false)
	wantHolds(t, set(t, api.MaxVars, lits(-api.MaxVars)), nil, true)
	wantHolds(t, set(t, api.MaxVars, lits(api.MaxVars)), make([]bool, api.MaxVars-1), false)
}

// P13.3: what a model says behind the last variable makes no difference.
func TestHoldsLongModel(t *testing.T) {
	s := set(t, 2, lits(1, 2), lits(-1, -2))
	for _, m := range models(5) {
		wantHolds(t, s, m, m[0] != m[1])
	}
	wantHolds(t, s, append([]bool{true}, make([]bool, 100000)...), true)
}

// P13.3: at both ends of the variables, and of 5000 clauses.
func TestHoldsMany(t *testing.T) {
	s := filled(t, 4999)
	s.Add(lits(-1))
	m := make([]bool, api.MaxVars)
	wantHolds(t, s, m, false)
	m[api.MaxVars-1] = true
	wantHolds(t, s, m, true)
	m[0] = true
	wantHolds(t, s, m, false)
}
