package prop

import (
	"fmt"
	"math"
	"slices"
	"testing"

	"chandler/api"
	"chandler/cnf"
)

const (
	most  = math.MaxInt64 // the greatest number that a literal may be
	least = math.MinInt64
)

// lits tells a list of these literals.
func lits(l ...api.Lit) []api.Lit {
	return l
}

// set tells a set of n variables with these clauses.
func set(t *testing.T, n int, clauses ...[]api.Lit) *cnf.Set {
	t.Helper()
	s := cnf.New(n)
	for _, c := range clauses {
		if !s.Add(c) {
			t.Fatalf("Add(%v) to %d variables is false", c, n)
		}
	}
	return s
}

// trail tells a trail over a set of n variables with these clauses.
func trail(t *testing.T, n int, clauses ...[]api.Lit) *Trail {
	t.Helper()
	return New(set(t, n, clauses...))
}

// push fails, if one of these can't be pushed, one behind the other.
func push(t *testing.T, x *Trail, l ...api.Lit) {
	t.Helper()
	for _, y := range l {
		if !x.Push(y) {
			t.Fatalf("Push(%d) on %v is false", y, x.Lits())
		}
	}
}

// pop fails, if that many levels can't be taken back.
func pop(t *testing.T, x *Trail, count int) {
	t.Helper()
	for range count {
		if !x.Pop() {
			t.Fatalf("Pop of %v is false", x.Lits())
		}
	}
}

// show tells all that there is to be seen of a trail of n variables.
func show(x *Trail, n int) string {
	var values []int
	for v := range n + 2 {
		values = append(values, x.Value(v))
	}
	return fmt.Sprint(x.Lits(), x.Levels(), x.Clash(), values)
}

// wantTrail fails, if just these are not on the trail of n variables, at so many levels, with this clash.
func wantTrail(t *testing.T, x *Trail, n, levels, clash int, l ...api.Lit) {
	t.Helper()
	if got := x.Lits(); !slices.Equal(got, l) || x.Levels() != levels || x.Clash() != clash {
		t.Errorf("%v, levels %d, clash %d; want %v, %d, %d", got, x.Levels(), x.Clash(), l, levels, clash)
	}
	for v := range n + 1 {
		want := 0
		switch y := api.Lit(v); {
		case slices.Contains(l, y):
			want = 1
		case slices.Contains(l, -y):
			want = -1
		}
		if got := x.Value(v); got != want {
			t.Errorf("Value(%d) = %d; want %d", v, got, want)
		}
	}
}

// wantRefused fails, if one of these can be pushed, or anything of the trail of n variables changes.
func wantRefused(t *testing.T, x *Trail, n int, l ...api.Lit) {
	t.Helper()
	before := show(x, n)
	for _, y := range l {
		if x.Push(y) || show(x, n) != before {
			t.Errorf("Push(%d) is not refused: %s; before %s", y, show(x, n), before)
		}
	}
}

// all tells both literals of each of n variables.
func all(n int) []api.Lit {
	var l []api.Lit
	for v := range n {
		l = append(l, api.Lit(v+1), api.Lit(-v-1))
	}
	return l
}

// none tells numbers that are no literals of n variables.
func none(n int) []api.Lit {
	last := api.Lit(n)
	return lits(0, last+1, -last-1, last+2, 1000, -1000, 1<<32, 1<<32+1, -1<<32, -1<<32-1, most, most-1, -most, least)
}

// models tells each model of n variables.
func models(n int) [][]bool {
	all := [][]bool{{}}
	for range n {
		var longer [][]bool
		for _, m := range all {
			longer = append(longer, append(slices.Clone(m), false), append(slices.Clone(m), true))
		}
		all = longer
	}
	return all
}

// picks is a row of numbers that goes every which way, but always the same one.
type picks uint32

// pick tells the next number, at least 0 and below n.
func (p *picks) pick(n int) int {
	*p = *p*1664525 + 1013904223
	return int(*p>>8) % n
}

// anyLit tells a literal of one of n variables.
func (p *picks) anyLit(n int) api.Lit {
	return all(n)[p.pick(2*n)]
}

// anyClauses tells up to count clauses of up to size literals of n variables; the shortest are rare.
func (p *picks) anyClauses(count, size, n int) [][]api.Lit {
	var clauses [][]api.Lit
	for range p.pick(count + 1) {
		long := 2 + p.pick(size-1)
		if p.pick(6) == 0 {
			long = 1
		}
		if p.pick(60) == 0 {
			long = 0
		}
		var c []api.Lit
		for range long {
			c = append(c, p.anyLit(n))
		}
		clauses = append(clauses, c)
	}
	return clauses
}

// shuffled tells the clauses in another order.
func (p *picks) shuffled(clauses [][]api.Lit) [][]api.Lit {
	clauses = slices.Clone(clauses)
	for i := range clauses {
		j := p.pick(i + 1)
		clauses[i], clauses[j] = clauses[j], clauses[i]
	}
	return clauses
}
