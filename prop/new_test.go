package prop

import (
	"math"
	"testing"

	"chandler/api"
	"chandler/cnf"
)

// P14.1: over no set there is no trail.
func TestNewNil(t *testing.T) {
	if x := New(nil); x != nil {
		t.Error(x)
	}
}

// P14.1: without clauses nothing follows, of however many variables; each literal may be pushed, and no other.
func TestNewNoClauses(t *testing.T) {
	for _, n := range []int{-1, 0, 1, 3, api.MaxVars, api.MaxVars + 1} {
		n, s := min(max(n, 0), api.MaxVars), cnf.New(n)
		wantTrail(t, New(s), n, 0, -1)
		wantRefused(t, New(s), n, none(n)...)
		x := New(s)
		for i, l := range all(n) {
			if x.Push(l) != (l > 0) || x.Levels() != i/2+1 {
				t.Fatalf("Push(%d): %d levels", l, x.Levels())
			}
		}
		for _, l := range all(n) {
			x = New(s)
			push(t, x, l)
			wantTrail(t, x, n, 1, -1, l)
		}
	}
}

// P14.1: where each clause has two open literals nothing follows.
func TestNewNothingFollows(t *testing.T) {
	wantTrail(t, trail(t, 3, lits(1, 2), lits(-1, -2), lits(1, 2, 3), lits(-3, 2)), 3, 0, -1)
}

// P14.1: what follows of nothing is on the trail, of level 0: clauses of one literal, and what they force.
func TestNewForced(t *testing.T) {
	wantTrail(t, trail(t, 2, lits(1)), 2, 0, -1, 1)
	wantTrail(t, trail(t, 2, lits(-2)), 2, 0, -1, -2)
	wantTrail(t, trail(t, 3, lits(3), lits(-1), lits(2)), 3, 0, -1, 3, -1, 2)
	wantTrail(t, trail(t, 2, lits(1), lits(1), lits(1, 2)), 2, 0, -1, 1)
	wantTrail(t, trail(t, 4, lits(1), lits(-1, 2), lits(-2, -1, -3)), 4, 0, -1, 1, 2, -3)
	wantTrail(t, trail(t, 4, lits(-2, -1, -3), lits(-1, 2), lits(1)), 4, 0, -1, 1, 2, -3)
}

// P14.1: level 0 is no level that may be taken back.
func TestNewForcedStays(t *testing.T) {
	x := trail(t, 3, lits(1), lits(-1, -2))
	if x.Pop() {
		t.Error("Pop is true")
	}
	wantTrail(t, x, 3, 0, -1, 1, -2)
	wantRefused(t, x, 3, 1, -1, 2, -2)
	push(t, x, 3)
	pop(t, x, 1)
	if x.Pop() {
		t.Error("Pop is true")
	}
	wantTrail(t, x, 3, 0, -1, 1, -2)
}

// P14.1, P14.2: a clause of none is a clash; what follows is on the trail all the same, and nothing may be pushed.
func TestNewEmptyClause(t *testing.T) {
	wantTrail(t, trail(t, 0, nil), 0, 0, 0)
	wantRefused(t, trail(t, 0, nil), 0, 0, 1, -1)
	for i, clauses := range [][][]api.Lit{
		{nil, {2}, {-2, 3}},
		{{2}, nil, {-2, 3}},
		{{2}, {-2, 3}, nil},
	} {
		x := trail(t, 4, clauses...)
		wantTrail(t, x, 4, 0, i, 2, 3)
		wantRefused(t, x, 4, all(4)...)
		if x.Pop() {
			t.Error("Pop is true")
		}
	}
}

// P14.1: where clauses would force both literals of one variable, the first one that is forced stands, and the other clause is a clash.
func TestNewBoth(t *testing.T) {
	wantTrail(t, trail(t, 1, lits(1), lits(-1)), 1, 0, 1, 1)
	wantTrail(t, trail(t, 1, lits(-1), lits(1)), 1, 0, 1, -1)
	wantTrail(t, trail(t, 3, lits(-1, 3), lits(-2, -3), lits(1), lits(2)), 3, 0, 1, 1, 2, 3)
	wantTrail(t, trail(t, 3, lits(-2, -3), lits(-1, 3), lits(1), lits(2)), 3, 0, 1, 1, 2, -3)
	wantTrail(t, trail(t, 2, lits(1, 2), lits(-2), lits(-1)), 2, 0, 0, -2, -1)
	wantRefused(t, trail(t, 2, lits(1), lits(-1)), 2, all(2)...)
}

// P14.1: the clauses are those at New, whatever the set has later on.
func TestNewSetChanged(t *testing.T) {
	s := set(t, 4, lits(-1, 2), lits(4))
	x := New(s)
	s.Add(lits(-4))
	s.Add(lits(-2, 3))
	s.Add(lits(-1))
	s.Add(nil)
	wantTrail(t, x, 4, 0, -1, 4)
	push(t, x, 1)
	s.AtMost(lits(1, 2, 3, 4))
	push(t, x, 3)
	wantTrail(t, x, 4, 2, -1, 4, 1, 2, 3)
	pop(t, x, 2)
	push(t, x, 1)
	wantTrail(t, x, 4, 1, -1, 4, 1, 2)
	wantTrail(t, New(s), 4, 0, 2, 4, -1, -2, -3)
}

// P14.1: a set is as it was, whatever becomes of trails over it, and they have nothing to do with one another.
func TestNewOfOneSet(t *testing.T) {
	s := set(t, 3, lits(-1, 2), lits(-2, 3))
	x, y := New(s), New(s)
	push(t, x, 1)
	wantTrail(t, y, 3, 0, -1)
	push(t, y, -3)
	wantTrail(t, x, 3, 1, -1, 1, 2, 3)
	wantTrail(t, y, 3, 1, -1, -3, -2, -1)
	pop(t, x, 1)
	wantTrail(t, y, 3, 1, -1, -3, -2, -1)
	if s.Len() != 2 || len(s.At(0)) != 2 || s.At(0)[0] != -1 || s.At(1)[1] != 3 {
		t.Error(s.At(0), s.At(1))
	}
}

// A nil trail tells zero values, but that there is no clash, whatever it is asked.
func TestNil(t *testing.T) {
	var x *Trail
	for range 2 {
		for _, l := range append(none(3), all(3)...) {
			if x.Push(l) {
				t.Errorf("Push(%d)", l)
			}
		}
		for _, v := range []int{math.MinInt, -1, 0, 1, 2, 200, math.MaxInt} {
			if x.Value(v) != 0 {
				t.Errorf("Value(%d) = %d", v, x.Value(v))
			}
		}
		if x.Pop() || len(x.Lits()) != 0 || x.Clash() != -1 || x.Levels() != 0 {
			t.Error(x.Lits(), x.Clash(), x.Levels())
		}
	}
}

// A trail that New has not made is one of no variables and clauses.
func TestZero(t *testing.T) {
	x := new(Trail)
	wantTrail(t, x, 3, 0, -1)
	wantRefused(t, x, 3, append(none(3), all(3)...)...)
	if x.Pop() {
		t.Error("Pop is true")
	}
}
