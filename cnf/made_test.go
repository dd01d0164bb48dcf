package cnf

import (
	"fmt"
	"math"
	"slices"
	"testing"

	"chandler/api"
)

const (
	most  = math.MaxInt64 // the greatest number that a literal may be
	least = math.MinInt64
)

// lits tells a list of these literals.
func lits(l ...api.Lit) []api.Lit {
	return l
}

// set tells a set of n variables with these clauses.
func set(t *testing.T, n int, clauses ...[]api.Lit) *Set {
	t.Helper()
	s := New(n)
	for _, c := range clauses {
		if !s.Add(c) {
			t.Fatalf("Add(%v) to %d variables is false", c, n)
		}
	}
	return s
}

// filled tells a set of 200 variables that has so many clauses, each the literal 200 alone.
func filled(t *testing.T, count int) *Set {
	t.Helper()
	return set(t, api.MaxVars, slices.Repeat([][]api.Lit{{api.MaxVars}}, count)...)
}

// clauses tells all clauses of s.
func clauses(s *Set) [][]api.Lit {
	var l [][]api.Lit
	for i := range s.Len() {
		l = append(l, s.At(i))
	}
	return l
}

// wantClauses fails, if s does not have just these clauses.
func wantClauses(t *testing.T, s *Set, want ...[]api.Lit) {
	t.Helper()
	if s.Len() != len(want) || fmt.Sprint(clauses(s)) != fmt.Sprint(want) {
		t.Errorf("%d clauses %.400v; want %d: %.400v", s.Len(), clauses(s), len(want), want)
	}
}

// wantLast fails, if s does not have so many clauses, or the last ones are not these.
func wantLast(t *testing.T, s *Set, count int, want ...[]api.Lit) {
	t.Helper()
	if s.Len() != count {
		t.Fatalf("%d clauses; want %d", s.Len(), count)
	}
	if last := clauses(s)[count-len(want):]; fmt.Sprint(last) != fmt.Sprint(want) {
		t.Errorf("the last clauses %.400v; want %.400v", last, want)
	}
}

// models tells each model of n variables.
func models(n int) [][]bool {
	all := [][]bool{{}}
	for range n {
		var longer [][]bool
		for _, m := range all {
			longer = append(longer, append(slices.Clone(m), false), append(slices.Clone(m), true))
		}
		all = longer
	}
	return all
}

// rows tells each list of up to n of these literals.
func rows(n int, of []api.Lit) [][]api.Lit {
	all := [][]api.Lit{nil}
	ends := all
	for range n {
		var longer [][]api.Lit
		for _, l := range ends {
			for _, x := range of {
				longer = append(longer, append(slices.Clone(l), x))
			}
		}
		ends = longer
		all = append(all, ends...)
	}
	return all
}

// spoil overwrites l, and what has room behind it.
func spoil[T any](l []T, x T) {
	l = l[:cap(l)]
	for i := range l {
		l[i] = x
	}
}

// picks is a row of numbers that goes every which way, but always the same one.
type picks uint32

// pick tells the next number, at least 0 and below n.
func (p *picks) pick(n int) int {
	*p = *p*1664525 + 1013904223
	return int(*p>>8) % n
}

// anyLits tells up to n literals of so many variables; now and then one of them is none.
func (p *picks) anyLits(n, vars int) []api.Lit {
	var l []api.Lit
	for range p.pick(n + 1) {
		x := api.Lit(p.pick(vars+1) - p.pick(vars+1))
		if x == 0 && p.pick(8) > 0 {
			continue
		}
		if p.pick(40) == 0 {
			x = lits(api.Lit(vars+1), api.Lit(-vars-1), most, -most, least)[p.pick(5)]
		}
		l = append(l, x)
	}
	return l
}

// shuffled tells l in another order, and some of it more than once.
func (p *picks) shuffled(l []api.Lit) []api.Lit {
	l = slices.Clone(l)
	for range p.pick(3) {
		if len(l) > 0 {
			l = append(l, l[p.pick(len(l))])
		}
	}
	for i := range l {
		j := p.pick(i + 1)
		l[i], l[j] = l[j], l[i]
	}
	return l
}
