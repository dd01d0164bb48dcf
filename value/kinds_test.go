package value

import (
	"math"
	"slices"
	"strings"
	"testing"

	"chandler/api"
)

// sample is a value, the kind that it must be of, and what must be within; of a list: lists of it.
type sample struct {
	v        Value
	kind     string
	text     string
	count    int
	yes      bool
	clauses  []api.Clause
	atoms    []api.Atom
	provides []api.Provide
}

// someClauses tells clauses of one and more atoms.
func someClauses() []api.Clause {
	return []api.Clause{{{Name: "aa", Rel: api.RGe, Version: "1"}, {Name: "bb"}}, {{Name: "cc", Rel: api.RLt, Version: "2"}}}
}

// someAtoms tells two atoms.
func someAtoms() []api.Atom {
	return []api.Atom{{Name: "aa"}, {Name: "bb", Rel: api.REq, Version: "1:2~-3"}}
}

// someProvides tells a name with a version, and one without.
func someProvides() []api.Provide {
	return []api.Provide{{Name: "aa", Version: "2"}, {Name: "bb"}}
}

// samples tells values of each kind, and the zero value.
func samples() []sample {
	l := []sample{{kind: "none"}}
	for _, s := range []string{"", "a", "yes", "no", "0", "12", "none", "text", "aa (>= 1) | bb", "é\xff\x00\n", strings.Repeat("a", api.MaxText+1)} {
		l = append(l, sample{v: OfText(s), kind: "text", text: s})
	}
	for _, n := range []int{0, 1, -1, 12, 999999999, 1000000000, math.MaxInt, math.MinInt} {
		l = append(l, sample{v: OfCount(n), kind: "count", count: n})
	}
	for _, b := range []bool{true, false} {
		l = append(l, sample{v: OfYes(b), kind: "yes", yes: b})
	}
	for _, x := range [][]api.Clause{nil, {}, {nil}, {{}}, {{}, {{}}}, someClauses(), slices.Repeat(someClauses(), 50)} {
		l = append(l, sample{v: OfClauses(x), kind: "clauses", clauses: x})
	}
	for _, x := range [][]api.Atom{nil, {}, {{}}, {{Name: "x", Rel: -7, Version: "\xff"}}, someAtoms(), slices.Repeat(someAtoms(), 50)} {
		l = append(l, sample{v: OfAtoms(x), kind: "atoms", atoms: x})
	}
	for _, x := range [][]api.Provide{nil, {}, {{}}, {{Name: "x", Version: "\xff"}}, someProvides(), slices.Repeat(someProvides(), 50)} {
		l = append(l, sample{v: OfProvides(x), kind: "provides", provides: x})
	}
	return l
}

// sameClauses tells whether a and b are the same clauses; nil and empty ones are.
func sameClauses(a, b []api.Clause) bool {
	return slices.EqualFunc(a, b, func(c, d api.Clause) bool { return slices.Equal(c, d) })
}

// P8.1: each value is of its kind; it tells what is within as that, and the zero value and false as each other kind.
func TestKinds(t *testing.T) {
	for i, x := range samples() {
		if got := Kind(x.v); got != x.kind {
			t.Errorf("%d: Kind: %s, want %s", i, got, x.kind)
		}
		if s, ok := Text(x.v); s != x.text || ok != (x.kind == "text") {
			t.Errorf("%d: Text of a %s: %.100q, %t", i, x.kind, s, ok)
		}
		if n, ok := Count(x.v); n != x.count || ok != (x.kind == "count") {
			t.Errorf("%d: Count of a %s: %d, %t", i, x.kind, n, ok)
		}
		if b, ok := Yes(x.v); b != x.yes || ok != (x.kind == "yes") {
			t.Errorf("%d: Yes of a %s: %t, %t", i, x.kind, b, ok)
		}
		if l, ok := Clauses(x.v); !sameClauses(l, x.clauses) || ok != (x.kind == "clauses") {
			t.Errorf("%d: Clauses of a %s: %v, %t", i, x.kind, l, ok)
		}
		if l, ok := Atoms(x.v); !slices.Equal(l, x.atoms) || ok != (x.kind == "atoms") {
			t.Errorf("%d: Atoms of a %s: %v, %t", i, x.kind, l, ok)
		}
		if l, ok := Provides(x.v); !slices.Equal(l, x.provides) || ok != (x.kind == "provides") {
			t.Errorf("%d: Provides of a %s: %v, %t", i, x.kind, l, ok)
		}
	}
}

// P8.1: a variable that was only declared is of no kind.
func TestZeroValue(t *testing.T) {
	var v Value
	if Kind(v) != "none" {
		t.Error(Kind(v))
	}
	row := make([]Value, 3)
	if Kind(row[2]) != "none" {
		t.Error(Kind(row[2]))
	}
}

// P8.1: what is done to a list behind the call that made the value makes no difference to it.
func TestMadeOfCopies(t *testing.T) {
	clauses, atoms, provides := someClauses(), someAtoms(), someProvides()
	a, b, c := OfClauses(clauses), OfAtoms(atoms), OfProvides(provides)
	clauses[0][0].Name = "spoilt"
	clauses[0][1] = api.Atom{}
	clauses[1] = nil
	atoms[0].Version = "spoilt"
	atoms[1] = api.Atom{}
	provides[0].Name = "spoilt"
	provides[1] = api.Provide{}
	wantLists(t, a, b, c)
}

// P8.1: what is done to a list that was told makes no difference to the value, to what else it tells, to a copy of it.
func TestTellsCopies(t *testing.T) {
	a, b, c := OfClauses(someClauses()), OfAtoms(someAtoms()), OfProvides(someProvides())
	copied := a
	for range 2 {
		clauses, _ := Clauses(a)
		others, _ := Clauses(a)
		clauses[0][0].Name = "spoilt"
		clear(clauses[1])
		if !sameClauses(others, someClauses()) {
			t.Errorf("two answers share memory: %v", others)
		}
		clear(clauses)
		atoms, _ := Atoms(b)
		atoms[0].Name = "spoilt"
		clear(atoms[1:])
		provides, _ := Provides(c)
		provides[0].Name = "spoilt"
		clear(provides[1:])
		wantLists(t, a, b, c)
		wantLists(t, copied, b, c)
	}
}

// wantLists fails, if these are not the values of someClauses, someAtoms and someProvides.
func wantLists(t *testing.T, a, b, c Value) {
	t.Helper()
	if l, ok := Clauses(a); !ok || !sameClauses(l, someClauses()) {
		t.Errorf("Clauses: %v, %t", l, ok)
	}
	if l, ok := Atoms(b); !ok || !slices.Equal(l, someAtoms()) {
		t.Errorf("Atoms: %v, %t", l, ok)
	}
	if l, ok := Provides(c); !ok || !slices.Equal(l, someProvides()) {
		t.Errorf("Provides: %v, %t", l, ok)
	}
}

// fill writes x behind the end of l, as far as its memory goes.
func fill[T any](l []T, x T) {
	for i := len(l); i < cap(l); i++ {
		l[:cap(l)][i] = x
	}
}

// P8.1: what lies behind the end of one list is no part of another one, whether it is handed in or told.
func TestBehindTheEnd(t *testing.T) {
	row := []api.Atom{{Name: "aa"}, {Name: "bb"}, {Name: "cc"}, {Name: "dd"}}
	v := OfClauses([]api.Clause{row[:1], row[1:2], row[2:2]})
	l, _ := Clauses(v)
	for _, c := range l {
		fill(c, api.Atom{Name: "spoilt"})
	}
	fill(l, api.Clause{{Name: "spoilt"}})
	want := []api.Clause{{{Name: "aa"}}, {{Name: "bb"}}, {}}
	again, _ := Clauses(v)
	if !sameClauses(l, want) || !sameClauses(again, want) {
		t.Errorf("one list reaches into another one: %v, %v", l, again)
	}
	atoms, _ := Atoms(OfAtoms(row[:2]))
	fill(atoms, api.Atom{Name: "spoilt"})
	if len(atoms) != 2 || row[2].Name != "cc" || row[3].Name != "dd" {
		t.Errorf("%v, %v", atoms, row)
	}
	whole := []api.Provide{{Name: "aa"}, {Name: "bb"}, {Name: "cc"}}
	provides, _ := Provides(OfProvides(whole[:1]))
	fill(provides, api.Provide{Name: "spoilt"})
	if len(provides) != 1 || whole[1].Name != "bb" || whole[2].Name != "cc" {
		t.Errorf("%v, %v", provides, whole)
	}
}

// P8.1: what is handed in is not changed.
func TestHandedInStays(t *testing.T) {
	clauses, atoms, provides := someClauses(), someAtoms(), someProvides()
	for _, v := range []Value{OfClauses(clauses), OfAtoms(atoms), OfProvides(provides)} {
		Write(v)
	}
	if !sameClauses(clauses, someClauses()) || !slices.Equal(atoms, someAtoms()) || !slices.Equal(provides, someProvides()) {
		t.Errorf("%v, %v, %v", clauses, atoms, provides)
	}
}
