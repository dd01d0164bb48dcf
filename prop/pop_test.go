package prop

import (
	"math"
	"slices"
	"testing"

	"chandler/api"
)

// P14.2: where there is no level Pop is false, and nothing changes.
func TestPopNone(t *testing.T) {
	for _, x := range []*Trail{trail(t, 0), trail(t, 3), trail(t, 3, lits(2), lits(-2, -3)), trail(t, 3, lits(2), nil)} {
		before := show(x, 3)
		if x.Pop() || x.Pop() || show(x, 3) != before {
			t.Errorf("%s; before %s", show(x, 3), before)
		}
	}
}

// P14.2: the only level goes with all that followed of it.
func TestPopOnly(t *testing.T) {
	x := trail(t, 5, lits(-1, 2), lits(-2, -3), lits(5))
	push(t, x, 1)
	wantTrail(t, x, 5, 1, -1, 5, 1, 2, -3)
	pop(t, x, 1)
	wantTrail(t, x, 5, 0, -1, 5)
	if x.Pop() {
		t.Error("Pop of no level is true")
	}
	wantTrail(t, x, 5, 0, -1, 5)
}

// P14.2: of several levels the last one goes, one behind the other.
func TestPopSeveral(t *testing.T) {
	x := trail(t, 6, lits(-1, 2), lits(-3, -4), lits(6, 5))
	push(t, x, 1, 4, -5)
	wantTrail(t, x, 6, 3, -1, 1, 2, 4, -3, -5, 6)
	pop(t, x, 1)
	wantTrail(t, x, 6, 2, -1, 1, 2, 4, -3)
	pop(t, x, 1)
	wantTrail(t, x, 6, 1, -1, 1, 2)
	pop(t, x, 1)
	wantTrail(t, x, 6, 0, -1)
	if x.Pop() {
		t.Error("Pop of no level is true")
	}
}

// P14.2: behind Pop the same may be pushed again, or its denial, or something else.
func TestPushAgain(t *testing.T) {
	x := trail(t, 4, lits(-1, 2), lits(1, 3), lits(-2, -4))
	for range 3 {
		push(t, x, 1)
		wantTrail(t, x, 4, 1, -1, 1, 2, -4)
		pop(t, x, 1)
		push(t, x, -1)
		wantTrail(t, x, 4, 1, -1, -1, 3)
		push(t, x, 4)
		wantTrail(t, x, 4, 2, -1, -1, 3, 4, -2)
		pop(t, x, 1)
		push(t, x, 2)
		wantTrail(t, x, 4, 2, -1, -1, 3, 2, -4)
		pop(t, x, 2)
		wantTrail(t, x, 4, 0, -1)
	}
}

// P14.2: a clash goes with its level.
func TestPopClash(t *testing.T) {
	x := trail(t, 4, lits(-1, 2), lits(-1, -2, -3), lits(4, 3))
	push(t, x, 3, 1)
	wantTrail(t, x, 4, 2, 1, 3, 1, 2)
	pop(t, x, 1)
	wantTrail(t, x, 4, 1, -1, 3)
	push(t, x, 4)
	wantTrail(t, x, 4, 2, -1, 3, 4)
	push(t, x, 1)
	wantTrail(t, x, 4, 3, 1, 3, 4, 1, 2)
	pop(t, x, 3)
	push(t, x, 1)
	wantTrail(t, x, 4, 1, -1, 1, 2, -3, 4)
}

// P14.2: what was refused is no level.
func TestPopRefused(t *testing.T) {
	x := trail(t, 3, lits(-1, 2))
	push(t, x, 1)
	wantRefused(t, x, 3, 0, 4, 1, -1, 2, -2)
	pop(t, x, 1)
	wantTrail(t, x, 3, 0, -1)
	if x.Pop() {
		t.Error("Pop of no level is true")
	}
}

// P14.2: of a variable its value, of all else 0.
func TestValue(t *testing.T) {
	x := trail(t, 4, lits(-1, -2))
	push(t, x, 1, 4)
	for v, want := range map[int]int{
		math.MinInt: 0, -200: 0, -4: 0, -2: 0, -1: 0, 0: 0, 1: 1, 2: -1, 3: 0, 4: 1,
		5: 0, 200: 0, 1 << 32: 0, 1<<32 + 1: 0, -1<<32 + 1: 0, math.MaxInt: 0,
	} {
		if got := x.Value(v); got != want {
			t.Errorf("Value(%d) = %d; want %d", v, got, want)
		}
	}
	x = trail(t, api.MaxVars, lits(-api.MaxVars))
	if x.Value(api.MaxVars) != -1 || x.Value(api.MaxVars+1) != 0 || x.Value(api.MaxVars-1) != 0 {
		t.Error(x.Value(api.MaxVars), x.Value(api.MaxVars+1))
	}
}

// P14.2: the literals stand in the order in which they came, of each level the one that was pushed first.
func TestLits(t *testing.T) {
	x := trail(t, 8, lits(-7, 6), lits(7), lits(-3, 1), lits(-1, -2), lits(-8, -4), lits(5, -6, -8))
	wantTrail(t, x, 8, 0, -1, 7, 6)
	push(t, x, 8, 3)
	wantTrail(t, x, 8, 2, -1, 7, 6, 8, -4, 5, 3, 1, -2)
}

// P14.2: of several clauses that clash the first one is told, wherever its literals came from.
func TestClashFirst(t *testing.T) {
	x := trail(t, 3, lits(1, 2), lits(-1, 2), lits(-1, -2), lits(-2, -1), lits(-1, -2, -3))
	push(t, x, 3)
	if x.Clash() != -1 {
		t.Error(x.Clash())
	}
	push(t, x, 1)
	wantTrail(t, x, 3, 2, 2, 3, 1, 2)
	x = trail(t, 2, lits(2), lits(1), nil, lits(-1), nil, lits(-2))
	wantTrail(t, x, 2, 0, 2, 2, 1)
}

// P14.2: a clash is looked for only when nothing follows any more: what is met later may stand further ahead.
func TestClashLate(t *testing.T) {
	x := trail(t, 6, lits(-3, -4), lits(-5, 3), lits(-5, 4), lits(-1, 2), lits(-1, -2), lits(-2, 5), lits(-1, 6))
	push(t, x, 1)
	wantTrail(t, x, 6, 1, 0, 1, 2, 5, 6, 3, 4)
}

// P14.2: a clause of which a literal is true or open is no clash.
func TestClashNone(t *testing.T) {
	x := trail(t, 4, lits(1, 2, 3), lits(-1, 2, 4))
	push(t, x, -1)
	wantTrail(t, x, 4, 1, -1, -1)
	push(t, x, -2)
	wantTrail(t, x, 4, 2, -1, -1, -2, 3)
	push(t, x, -4)
	wantTrail(t, x, 4, 3, -1, -1, -2, 3, -4)
}

// P14.2: each Push is a level, however much follows of it.
func TestLevels(t *testing.T) {
	x := trail(t, api.MaxVars, lits(1))
	for v := 2; v <= api.MaxVars; v++ {
		if x.Levels() != v-2 {
			t.Fatalf("%d levels; want %d", x.Levels(), v-2)
		}
		push(t, x, api.Lit(v))
	}
	for n := api.MaxVars - 1; n > 0; n-- {
		if x.Levels() != n || len(x.Lits()) != n+1 {
			t.Fatalf("%d levels of %d literals; want %d", x.Levels(), len(x.Lits()), n)
		}
		pop(t, x, 1)
	}
	wantTrail(t, x, api.MaxVars, 0, -1, 1)
}

// P14.2 with R2: a list that was told may be changed; the trail and other lists are as they were.
func TestLitsSpoilt(t *testing.T) {
	x := trail(t, 5, lits(5), lits(-1, 2), lits(-3, 4))
	push(t, x, 1)
	for range 3 {
		first, second := x.Lits(), x.Lits()
		first = first[:cap(first)]
		for i := range first {
			first[i] = -4
		}
		if !slices.Equal(second, lits(5, 1, 2)) {
			t.Error(second)
		}
		wantTrail(t, x, 5, 1, -1, 5, 1, 2)
		push(t, x, 3)
		wantTrail(t, x, 5, 2, -1, 5, 1, 2, 3, 4)
		pop(t, x, 1)
	}
}

// P14.2 with R2: a list that was told stays as it was, whatever becomes of the trail.
func TestLitsStay(t *testing.T) {
	x := trail(t, 5, lits(-1, 2), lits(-3, 4))
	push(t, x, 1)
	first := x.Lits()
	push(t, x, 3)
	second := x.Lits()
	_ = append(first, 5)
	pop(t, x, 2)
	push(t, x, -5, -2)
	if !slices.Equal(first, lits(1, 2)) || !slices.Equal(second, lits(1, 2, 3, 4)) {
		t.Error(first, second)
	}
	wantTrail(t, x, 5, 2, -1, -5, -2, -1)
}
