package prop

import (
	"testing"

	"chandler/api"
)

// P14.1: what is pushed is true, and so is what follows of it, in several rounds if it must be.
func TestPush(t *testing.T) {
	x := trail(t, 4, lits(-1, 2), lits(-2, 3))
	push(t, x, 1)
	wantTrail(t, x, 4, 1, -1, 1, 2, 3)
	x = trail(t, 4, lits(-2, 3), lits(-1, 2))
	push(t, x, 1)
	wantTrail(t, x, 4, 1, -1, 1, 2, 3)
	x = trail(t, 4, lits(-1, 2), lits(-2, 3))
	push(t, x, -3)
	wantTrail(t, x, 4, 1, -1, -3, -2, -1)
	x = trail(t, 4, lits(-1, 2), lits(-2, 3))
	push(t, x, -1)
	wantTrail(t, x, 4, 1, -1, -1)
}

// P14.1: a clause forces its last open literal, if all others are false, and not if one is true.
func TestPushLongClause(t *testing.T) {
	for _, c := range [][]api.Lit{{1, 2, -3, 4}, {4, -3, 2, 1}} {
		x := trail(t, 4, c)
		push(t, x, -1)
		wantTrail(t, x, 4, 1, -1, -1)
		push(t, x, 3)
		wantTrail(t, x, 4, 2, -1, -1, 3)
		push(t, x, -4)
		wantTrail(t, x, 4, 3, -1, -1, 3, -4, 2)
		pop(t, x, 1)
		push(t, x, 4)
		wantTrail(t, x, 4, 3, -1, -1, 3, 4)
		push(t, x, -2)
		wantTrail(t, x, 4, 4, -1, -1, 3, 4, -2)
	}
}

// P14.1: each round goes over the clauses from the first on, and each that forces does so at once.
func TestPushOrder(t *testing.T) {
	x := trail(t, 4, lits(-1, 2), lits(-2, 3), lits(-1, 4))
	push(t, x, 1)
	wantTrail(t, x, 4, 1, -1, 1, 2, 3, 4) // not as a queue of literals would have it: 2 4 3
	x = trail(t, 5, lits(-1, 4), lits(-2, 3), lits(-1, 2), lits(-4, 5))
	push(t, x, 1)
	wantTrail(t, x, 5, 1, -1, 1, 4, 2, 5, 3) // 3 waits for the second round, though its clause stands ahead of that of 5
	x = trail(t, 5, lits(-2, 5), lits(-1, 3), lits(-1, -4), lits(-1, 2))
	push(t, x, 1)
	wantTrail(t, x, 5, 1, -1, 1, 3, -4, 2, 5)
	x = trail(t, 6, lits(-4, 5), lits(-3, 4), lits(-2, 3), lits(-1, 2), lits(-1, -6))
	push(t, x, 1)
	wantTrail(t, x, 6, 1, -1, 1, 2, -6, 3, 4, 5)
}

// P14.1: what follows of nothing comes in rounds, too.
func TestNewOrder(t *testing.T) {
	wantTrail(t, trail(t, 4, lits(1), lits(-1, 2), lits(-2, 3), lits(-1, 4)), 4, 0, -1, 1, 2, 3, 4)
	wantTrail(t, trail(t, 5, lits(-1, 4), lits(-2, 3), lits(1), lits(-1, 2), lits(-4, 5)), 5, 0, -1, 1, 2, 4, 3, 5)
}

// P14.1: of two literals of one variable the rounds say which one stands.
func TestPushBoth(t *testing.T) {
	x := trail(t, 3, lits(-1, 2), lits(-2, 3), lits(-1, -3))
	push(t, x, 1)
	wantTrail(t, x, 3, 1, 2, 1, 2, 3) // not -3, which a queue of literals would come to first
	x = trail(t, 3, lits(-1, 2), lits(-1, -3), lits(-2, 3))
	push(t, x, 1)
	wantTrail(t, x, 3, 1, 2, 1, 2, -3)
	x = trail(t, 3, lits(-2, 3), lits(-1, 2), lits(-1, -3))
	push(t, x, 1)
	wantTrail(t, x, 3, 1, 0, 1, 2, -3)
	x = trail(t, 2, lits(-1, 2), lits(-1, -2))
	push(t, x, 1)
	wantTrail(t, x, 2, 1, 1, 1, 2)
	x = trail(t, 2, lits(-1, -2), lits(-1, 2))
	push(t, x, 1)
	wantTrail(t, x, 2, 1, 1, 1, -2)
}

// P14.1: what was pushed stands, also where a clause would force its denial.
func TestPushDenied(t *testing.T) {
	x := trail(t, 3, lits(-1, 2), lits(-2, 3), lits(-3, -1))
	push(t, x, 1)
	wantTrail(t, x, 3, 1, 2, 1, 2, 3)
	x = trail(t, 2, lits(1, 2), lits(1, -2))
	push(t, x, -1)
	wantTrail(t, x, 2, 1, 1, -1, 2)
}

// P14.1: what is 0 or of no variable is refused, and nothing changes.
func TestPushNone(t *testing.T) {
	for _, n := range []int{0, 1, 3, api.MaxVars} {
		wantRefused(t, trail(t, n), n, none(n)...)
	}
	x := trail(t, 3, lits(-1, 2))
	push(t, x, 1)
	wantRefused(t, x, 3, none(3)...)
	wantTrail(t, x, 3, 1, -1, 1, 2)
	push(t, x, 3)
	wantTrail(t, x, 3, 2, -1, 1, 2, 3)
	wantRefused(t, x, 3, none(3)...)
}

// P14.1: what is true or false already is refused: of level 0, pushed, or forced.
func TestPushAlready(t *testing.T) {
	x := trail(t, 6, lits(6), lits(-6, -5), lits(-1, 2), lits(-3, -4))
	wantRefused(t, x, 6, 6, -6, 5, -5)
	push(t, x, 1)
	wantRefused(t, x, 6, 6, -6, 5, -5, 1, -1, 2, -2)
	push(t, x, 4)
	wantRefused(t, x, 6, all(6)...)
	wantTrail(t, x, 6, 2, -1, 6, -5, 1, 2, 4, -3)
}

// P14.1: where there is a clash nothing is pushed, also what is open.
func TestPushOnClash(t *testing.T) {
	x := trail(t, 4, lits(-1, 2), lits(-1, -2), lits(3, 4))
	push(t, x, 1)
	wantTrail(t, x, 4, 1, 1, 1, 2)
	wantRefused(t, x, 4, append(none(4), all(4)...)...)
	pop(t, x, 1)
	push(t, x, -3)
	wantTrail(t, x, 4, 1, -1, -3, 4)
	push(t, x, -1)
	wantTrail(t, x, 4, 2, -1, -3, 4, -1)
}

// P14.1: the first and the last variable, both ways.
func TestPushEnds(t *testing.T) {
	for _, l := range lits(1, -1, api.MaxVars, -api.MaxVars) {
		x := trail(t, api.MaxVars, lits(-l, 100), lits(-100, -99))
		push(t, x, l)
		wantTrail(t, x, api.MaxVars, 1, -1, l, 100, -99)
	}
}

// P14.1 with R3: as many rounds as there can be, over as many clauses as there can be.
func TestPushManyRounds(t *testing.T) {
	var clauses [][]api.Lit
	for v := api.Lit(api.MaxVars); v > 1; v-- {
		clauses = append(clauses, lits(1-v, v))
	}
	for len(clauses) < 5000 {
		clauses = append(clauses, lits(1, 2, 3, api.MaxVars))
	}
	x := trail(t, api.MaxVars, clauses...)
	var want []api.Lit
	for v := range api.Lit(api.MaxVars) {
		want = append(want, v+1)
	}
	for range 20 {
		push(t, x, 1)
		wantTrail(t, x, api.MaxVars, 1, -1, want...)
		pop(t, x, 1)
		wantTrail(t, x, api.MaxVars, 0, -1)
	}
	push(t, x, -api.MaxVars)
	if l := x.Lits(); len(l) != api.MaxVars || l[api.MaxVars-1] != -1 || x.Clash() != api.MaxVars-1 {
		t.Error(l, x.Clash())
	}
}
