package cnf

import (
	"fmt"
	"math"
	"slices"
	"testing"

	"chandler/api"
)

// P13.2: how many variables there are, at both ends of the range and beyond them; no clauses.
func TestNew(t *testing.T) {
	for n, want := range map[int]int{
		math.MinInt: 0, -200: 0, -1: 0, 0: 0, 1: 1, 2: 2, 100: 100,
		api.MaxVars - 1: api.MaxVars - 1, api.MaxVars: api.MaxVars,
		api.MaxVars + 1: api.MaxVars, math.MaxInt: api.MaxVars,
	} {
		s := New(n)
		if s == nil || s.Vars() != want || s.Len() != 0 || s.At(0) != nil {
			t.Errorf("New(%d): %d variables; want %d; %d clauses", n, s.Vars(), want, s.Len())
		}
	}
}

// P13.2: clauses stand one behind the other, each Tidied, also if there are like ones.
func TestAdd(t *testing.T) {
	s := New(5)
	for i, c := range [][]api.Lit{{3, -1, 3}, {5}, {-5}, nil, {5}, {2, 1}, {-4, -3, -2, -1, 5}, {1, 2}, {}} {
		if !s.Add(c) || s.Len() != i+1 || s.Vars() != 5 {
			t.Errorf("Add(%v): %d clauses", c, s.Len())
		}
	}
	wantClauses(t, s, lits(-1, 3), lits(5), lits(-5), nil, lits(5), lits(1, 2), lits(-1, -2, -3, -4, 5), lits(1, 2), nil)
}

// P13.2: a clause of no literals is one, also where there are no variables.
func TestAddNoLiterals(t *testing.T) {
	s := set(t, 0, nil, lits())
	if s.Len() != 2 || len(s.At(0)) != 0 || len(s.At(1)) != 0 {
		t.Errorf("%d clauses %v", s.Len(), clauses(s))
	}
}

// P13.2: a clause that always holds is taken, but not kept.
func TestAddAlwaysHolds(t *testing.T) {
	s := set(t, 3, lits(1, 2))
	for _, c := range [][]api.Lit{{1, -1}, {-3, 3}, {2, 1, 3, -2}, {3, 3, -3, -3}} {
		if !s.Add(c) {
			t.Errorf("Add(%v) is false", c)
		}
	}
	wantClauses(t, s, lits(1, 2))
	s.Add(lits(3))
	wantClauses(t, s, lits(1, 2), lits(3))
}

// noLiterals tells lists with a literal that is none of a set of three variables.
func noLiterals() [][]api.Lit {
	return [][]api.Lit{
		{0}, {4}, {-4}, {most}, {-most}, {least}, {200}, {-201}, {1 << 32}, {1<<32 + 1}, {-1 << 32},
		{0, 1}, {1, 0}, {1, 2, 3, 4}, {4, 3, 2, 1}, {1, -4, 2}, {1, least}, {least, 1, 2},
		{1, -1, 0}, {1, -1, 4}, {4, -4}, {0, 0}, {most, -most},
	}
}

// P13.2: a literal that is 0, or of no variable, is refused, wherever it stands, and also where the clause would always hold.
func TestAddRefused(t *testing.T) {
	s := set(t, 3, lits(1, -3))
	for _, c := range noLiterals() {
		if s.Add(c) {
			t.Errorf("Add(%v) is true", c)
		}
	}
	wantClauses(t, s, lits(1, -3))
	for _, x := range lits(1, -1, 0, least, most) {
		if none := New(0); none.Add(lits(x)) || none.Len() != 0 {
			t.Errorf("%d is a literal of no variables", x)
		}
	}
}

// P13.2: the first and the last variable are ones, and those beside them are none.
func TestAddEnds(t *testing.T) {
	for _, n := range []int{1, 2, 7, api.MaxVars} {
		s := New(n)
		last := api.Lit(n)
		if !s.Add(lits(last)) || !s.Add(lits(-last)) || !s.Add(lits(1)) || !s.Add(lits(-1)) || s.Add(lits(last+1)) || s.Add(lits(-last-1)) {
			t.Errorf("of %d variables: %v", n, clauses(s))
		}
		wantClauses(t, s, lits(last), lits(-last), lits(1), lits(-1))
	}
}

// P13.2: there is room for 5000 clauses, and for no more, not even for one that always holds.
func TestAddRoom(t *testing.T) {
	s := filled(t, 4999)
	if !s.Add(lits(1, -1)) || s.Add(lits(0)) || s.Len() != 4999 {
		t.Errorf("ahead of the last: %d", s.Len())
	}
	if !s.Add(lits(7, -6)) {
		t.Error("the 5000th is refused")
	}
	for _, c := range [][]api.Lit{{1}, nil, {1, -1}, {0}, {201}, {7, -6}} {
		if s.Add(c) {
			t.Errorf("Add(%v) to 5000 is true", c)
		}
	}
	wantLast(t, s, 5000, lits(api.MaxVars), lits(-6, 7))
}

// P13.2: those that always hold take no room.
func TestAddNoRoomTaken(t *testing.T) {
	s := New(2)
	for range 6000 {
		if !s.Add(lits(2, -2)) {
			t.Fatal("refused")
		}
	}
	for range 5000 {
		if !s.Add(nil) {
			t.Fatal("refused")
		}
	}
	if s.Add(nil) || s.Len() != 5000 {
		t.Error(s.Len())
	}
}

// P13.2: At at a place below 0, at the first and the last one, and behind it.
func TestAt(t *testing.T) {
	s := set(t, 3, lits(1), lits(2, -3), lits(-1, -2))
	for i, want := range map[int]string{
		math.MinInt: "[]", -3: "[]", -1: "[]", 0: "[1]", 1: "[2 -3]", 2: "[-1 -2]", 3: "[]", 4: "[]", 5000: "[]", math.MaxInt: "[]",
	} {
		if got := fmt.Sprint(s.At(i)); got != want {
			t.Errorf("At(%d) = %s; want %s", i, got, want)
		}
	}
	full := filled(t, 5000)
	if !slices.Equal(full.At(4999), lits(api.MaxVars)) || full.At(5000) != nil {
		t.Error(full.At(4999), full.At(5000))
	}
}

// P13.2 with R3: a list of very many literals is taken, and no more than the clause is kept of it.
func TestAddVeryMany(t *testing.T) {
	s := New(3)
	c := slices.Repeat(lits(3, 2, 3), 300000)
	if !s.Add(c) || !s.AtMost(c) || s.Add(append(c, 4)) || s.AtMost(append(c, 0)) {
		t.Error("very many")
	}
	wantClauses(t, s, lits(2, 3), lits(-2, -3))
	for _, kept := range s.clauses {
		if cap(kept) > 100 {
			t.Errorf("room for %d literals is kept", cap(kept))
		}
	}
}

// A nil set tells zero values, whatever it is asked.
func TestNil(t *testing.T) {
	var s *Set
	for range 2 {
		if s.Vars() != 0 || s.Len() != 0 || s.Copy() != nil {
			t.Error(s.Vars(), s.Len(), s.Copy())
		}
		for _, c := range append(noLiterals(), nil, lits(1), lits(1, -1), lits(1, 2)) {
			if s.Add(c) || s.AtMost(c) {
				t.Errorf("takes %v", c)
			}
		}
		for _, i := range []int{math.MinInt, -1, 0, 1, math.MaxInt} {
			if s.At(i) != nil {
				t.Errorf("At(%d) = %v", i, s.At(i))
			}
		}
		for _, m := range [][]bool{nil, {}, {true}, {false}, make([]bool, 300)} {
			if s.Holds(m) {
				t.Errorf("Holds(%v)", m)
			}
		}
	}
}
