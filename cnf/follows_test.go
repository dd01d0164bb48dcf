package cnf

import (
	"fmt"
	"slices"
	"testing"

	"chandler/api"
)

// P13.4: in which order literals stand, and how often, makes no difference to a clause.
func TestAnyOrder(t *testing.T) {
	p := picks(134)
	for range 3000 {
		c := p.anyLits(6, 5)
		again := p.shuffled(c)
		first, ok := Tidy(c)
		wantTidy(t, again, first, ok)
		s, other := New(5), New(5)
		if s.Add(c) != other.Add(again) {
			t.Fatalf("Add(%v) is not as Add(%v)", c, again)
		}
		wantClauses(t, other, clauses(s)...)
	}
}

// trueOnes tells how many unlike literals of l are so in m, which is as long as there are variables.
func trueOnes(l []api.Lit, m []bool) int {
	count := 0
	for i, so := range m {
		v := api.Lit(i + 1)
		if so && slices.Contains(l, v) || !so && slices.Contains(l, -v) {
			count++
		}
	}
	return count
}

// P13.4: AtMost holds just where at most one of unlike literals does.
func TestAtMostHolds(t *testing.T) {
	all := models(3)
	for _, l := range rows(4, lits(1, -1, 2, -2, 3, -3)) {
		s := New(3)
		if !s.AtMost(l) {
			t.Fatalf("AtMost(%v) is false", l)
		}
		for _, m := range all {
			wantHolds(t, s, m, trueOnes(l, m) <= 1)
		}
	}
}

// P13.4: in which order literals stand, and how often, makes no difference to where AtMost holds, nor to how many clauses it has.
func TestAtMostAnyOrder(t *testing.T) {
	p, all := picks(135), models(6)
	for range 500 {
		l := p.anyLits(8, 6)
		s, other := New(6), New(6)
		if s.AtMost(l) != other.AtMost(p.shuffled(l)) || s.Len() != other.Len() {
			t.Fatalf("AtMost(%v): %d and %d clauses", l, s.Len(), other.Len())
		}
		for _, m := range all {
			wantHolds(t, other, m, s.Holds(m))
		}
	}
}

// P13.3, P13.4: a set holds just where each of the clauses that were Added does, as they were written.
func TestHoldsAsWritten(t *testing.T) {
	p, all := picks(136), models(4)
	count := 0
	for range 2000 {
		s := New(4)
		var added [][]api.Lit
		for range p.pick(5) {
			if c := p.anyLits(4, 4); s.Add(c) {
				added = append(added, c)
			}
		}
		for _, m := range all {
			want := !slices.ContainsFunc(added, func(c []api.Lit) bool { return trueOnes(c, m) == 0 })
			wantHolds(t, s, m, want)
			if want && len(added) > 2 {
				count++
			}
		}
	}
	if count < 1000 {
		t.Errorf("only %d", count)
	}
}

// model is a set by the document's words.
type model struct {
	vars    int
	clauses [][]api.Lit
}

// may tells whether there is room, and all of c are literals of variables.
func (x *model) may(c []api.Lit) bool {
	for _, l := range c {
		some := false
		for v := range api.Lit(x.vars) {
			some = some || l == v+1 || l == -v-1
		}
		if !some {
			return false
		}
	}
	return len(x.clauses) < 5000
}

// add is Add.
func (x *model) add(c []api.Lit) bool {
	if !x.may(c) {
		return false
	}
	if tidy, ok := slowTidy(c); ok {
		x.clauses = append(x.clauses, tidy)
	}
	return true
}

// atMost is AtMost.
func (x *model) atMost(l []api.Lit) bool {
	if !x.may(l) {
		return false
	}
	for i := range l {
		for j := i + 1; j < len(l); j++ {
			counts := !slices.Contains(l[:i], l[i]) && !slices.Contains(l[:j], l[j])
			if counts && !x.add(lits(-l[i], -l[j])) {
				return false
			}
		}
	}
	return true
}

// holds is Holds.
func (x *model) holds(m []bool) bool {
	m = append(slices.Clone(m), make([]bool, x.vars)...)[:x.vars]
	return !slices.ContainsFunc(x.clauses, func(c []api.Lit) bool { return trueOnes(c, m) == 0 })
}

// pair is a set and its model.
type pair struct {
	s *Set
	x *model
}

// anyPair tells a new one, of few or many variables, that has no clauses, or is nearly full of such as always hold for any model of few variables.
func (p *picks) anyPair() pair {
	vars := []int{0, 1, 2, 3, 5, api.MaxVars}[p.pick(6)]
	y := pair{New(vars), &model{vars: vars}}
	if vars == api.MaxVars && p.pick(4) > 0 {
		for range 4985 + p.pick(16) {
			y.s.Add(lits(-api.MaxVars))
			y.x.add(lits(-api.MaxVars))
		}
	}
	return y
}

// anyChange does one to both, and tells both answers.
func (p *picks) anyChange(y pair) (got, want bool, what string) {
	l := p.anyLits(6, min(y.x.vars, 4))
	if p.pick(3) == 0 {
		return y.s.AtMost(l), y.x.atMost(l), fmt.Sprint("AtMost ", l)
	}
	return y.s.Add(l), y.x.add(l), fmt.Sprint("Add ", l)
}

// P13.1 to P13.3: rows of calls answer as the document's words say, also near the room's end, and of copies.
func TestAsModel(t *testing.T) {
	p := picks(137)
	refused, full := 0, 0
	for range 300 {
		y := p.anyPair()
		for range 30 {
			got, want, what := p.anyChange(y)
			if got != want || y.s.Len() != len(y.x.clauses) {
				t.Fatalf("%s: %v, %d clauses; want %v, %d", what, got, y.s.Len(), want, len(y.x.clauses))
			}
			if !want {
				refused++
			}
			if p.pick(10) == 0 {
				spare := y.s
				y.s = y.s.Copy()
				spare.AtMost(lits(1, 2, 3))
			}
		}
		if len(y.x.clauses) == 5000 {
			full++
		}
		wantClauses(t, y.s, y.x.clauses...)
		for _, m := range append(models(3), nil, models(5)[11]) {
			wantHolds(t, y.s, m, y.x.holds(m))
		}
	}
	if refused < 500 || full < 30 {
		t.Errorf("only %d, %d", refused, full)
	}
}
