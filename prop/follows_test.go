package prop

import (
	"fmt"
	"slices"
	"testing"

	"chandler/api"
	"chandler/cnf"
)

// slow is a trail by the document's words: from what was pushed, all is worked out anew each time it is asked.
type slow struct {
	clauses [][]api.Lit
	pushed  []api.Lit
}

// newSlow tells one over the clauses of s.
func newSlow(s *cnf.Set) *slow {
	x := &slow{}
	for i := range s.Len() {
		x.clauses = append(x.clauses, s.At(i))
	}
	return x
}

// lits tells what is on the trail, in order.
func (x *slow) lits() []api.Lit {
	l := x.rounds(nil)
	for _, y := range x.pushed {
		l = x.rounds(append(l, y))
	}
	return l
}

// rounds tells l and what follows of it.
func (x *slow) rounds(l []api.Lit) []api.Lit {
	for {
		before := len(l)
		for _, c := range x.clauses {
			var open []api.Lit
			some := false
			for _, y := range c {
				some = some || slices.Contains(l, y)
				if !slices.Contains(l, -y) {
					open = append(open, y)
				}
			}
			if !some && len(open) == 1 {
				l = append(l, open[0])
			}
		}
		if len(l) == before {
			return l
		}
	}
}

// clash tells the place of the first clause whose literals are all false, -1: there is none.
func (x *slow) clash() int {
	l := x.lits()
	for i, c := range x.clauses {
		count := 0
		for _, y := range c {
			if slices.Contains(l, -y) {
				count++
			}
		}
		if count == len(c) {
			return i
		}
	}
	return -1
}

// push is Push, of a literal of a variable.
func (x *slow) push(y api.Lit) bool {
	if l := x.lits(); slices.Contains(l, y) || slices.Contains(l, -y) || x.clash() >= 0 {
		return false
	}
	x.pushed = append(x.pushed, y)
	return true
}

// pop is Pop.
func (x *slow) pop() bool {
	if len(x.pushed) == 0 {
		return false
	}
	x.pushed = x.pushed[:len(x.pushed)-1]
	return true
}

// P14.1, P14.2: rows of calls answer as the document's words say.
func TestAsWords(t *testing.T) {
	p := picks(141)
	refused, clashes, deep := 0, 0, 0
	for range 1500 {
		n := 1 + p.pick(9)
		s := set(t, n, p.anyClauses(16, 4, n)...)
		x, y := New(s), newSlow(s)
		for range 25 {
			what, got, want := "Pop", false, false
			if p.pick(4) == 0 {
				got, want = x.Pop(), y.pop()
			} else {
				l := p.anyLit(n)
				what, got, want = fmt.Sprint("Push ", l), x.Push(l), y.push(l)
			}
			if got != want {
				t.Fatalf("%s: %v; want %v; clauses %v, trail %v", what, got, want, y.clauses, x.Lits())
			}
			wantTrail(t, x, n, len(y.pushed), y.clash(), y.lits()...)
			if t.Failed() {
				t.Fatalf("%s; clauses %v", what, y.clauses)
			}
			if !want {
				refused++
			}
			if x.Clash() >= 0 {
				clashes++
			}
			if len(y.pushed) > 2 && len(y.lits()) > 4 {
				deep++
			}
		}
	}
	if refused < 5000 || clashes < 3000 || deep < 3000 {
		t.Errorf("only %d, %d, %d", refused, clashes, deep)
	}
}

// isSo tells whether the literal l holds in the model m.
func isSo(m []bool, l api.Lit) bool {
	if l < 0 {
		return !m[-l-1]
	}
	return m[l-1]
}

// P14.3: each literal that follows is in every model of the clauses in which those that were pushed are; where there is a clash there is no such model.
func TestInEveryModel(t *testing.T) {
	const n = 6
	p, ways := picks(142), models(n)
	followed, clashes := 0, 0
	for range 1500 {
		s := set(t, n, p.anyClauses(14, 4, n)...)
		x := New(s)
		var pushed []api.Lit
		for range 6 {
			if l := p.anyLit(n); x.Push(l) {
				pushed = append(pushed, l)
			}
			l := x.Lits()
			for _, m := range ways {
				so := func(y api.Lit) bool { return isSo(m, y) }
				no := func(y api.Lit) bool { return !isSo(m, y) }
				if !s.Holds(m) || !allOf(pushed, so) {
					continue
				}
				if x.Clash() >= 0 || slices.ContainsFunc(l, no) {
					t.Fatalf("%v of %v, clash %d: %v is a model", l, pushed, x.Clash(), m)
				}
			}
			if len(l) > len(pushed)+1 {
				followed++
			}
		}
		if x.Clash() >= 0 {
			clashes++
		}
	}
	if followed < 1500 || clashes < 200 {
		t.Errorf("only %d, %d", followed, clashes)
	}
}

// allOf tells whether f is so of all of l.
func allOf(l []api.Lit, f func(api.Lit) bool) bool {
	return !slices.ContainsFunc(l, func(y api.Lit) bool { return !f(y) })
}

// P14.1, P14.3: what follows, and whether there is a clash, does not hang on the order of the clauses.
func TestAnyOrder(t *testing.T) {
	p := picks(143)
	followed, clashes := 0, 0
	for range 1500 {
		n := 2 + p.pick(8)
		clauses := p.anyClauses(16, 4, n)
		x, y := trail(t, n, clauses...), trail(t, n, p.shuffled(clauses)...)
		for range 8 {
			if l := p.anyLit(n); x.Push(l) != y.Push(l) {
				t.Fatalf("Push(%d) on %v and %v; clauses %v", l, x.Lits(), y.Lits(), clauses)
			}
			if (x.Clash() >= 0) != (y.Clash() >= 0) {
				t.Fatalf("clashes %d and %d; clauses %v", x.Clash(), y.Clash(), clauses)
			}
			if x.Clash() >= 0 {
				clashes++
				break
			}
			first, second := x.Lits(), y.Lits()
			slices.Sort(first)
			slices.Sort(second)
			if !slices.Equal(first, second) {
				t.Fatalf("%v and %v; clauses %v", first, second, clauses)
			}
			if len(first) > x.Levels()+2 {
				followed++
			}
		}
	}
	if followed < 1000 || clashes < 300 {
		t.Errorf("only %d, %d", followed, clashes)
	}
}

// P14.3: Pop takes back just what Push has brought, over any number of levels.
func TestPopTakesBack(t *testing.T) {
	p := picks(144)
	count := 0
	for range 800 {
		n := 2 + p.pick(11)
		x := trail(t, n, p.anyClauses(12, 4, n)...)
		for range 4 {
			seen := []string{show(x, n)}
			for range 12 {
				if x.Push(p.anyLit(n)) {
					seen = append(seen, show(x, n))
				}
			}
			for len(seen) > 1 {
				if got := show(x, n); got != seen[len(seen)-1] {
					t.Fatalf("%s; want %s", got, seen[len(seen)-1])
				}
				pop(t, x, 1)
				seen = seen[:len(seen)-1]
				count++
			}
			if got := show(x, n); got != seen[0] || x.Pop() {
				t.Fatalf("%s; want %s", got, seen[0])
			}
		}
	}
	if count < 3000 {
		t.Errorf("only %d", count)
	}
}

// P14.3: on the trail there are never two literals of one variable.
func TestOncePerVariable(t *testing.T) {
	p := picks(145)
	clashes := 0
	for range 2000 {
		n := 1 + p.pick(5)
		x := trail(t, n, p.anyClauses(20, 3, n)...)
		for range 3 {
			x.Push(p.anyLit(n))
		}
		l := x.Lits()
		for i, y := range l {
			if slices.Contains(l[:i], y) || slices.Contains(l, -y) {
				t.Fatal(l)
			}
		}
		if x.Clash() >= 0 {
			clashes++
		}
	}
	if clashes < 500 {
		t.Errorf("only %d", clashes)
	}
}
