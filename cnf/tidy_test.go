package cnf

import (
	"math/big"
	"slices"
	"testing"

	"chandler/api"
)

// wantTidy fails, if Tidy(c) is not want and ok.
func wantTidy(t *testing.T, c, want []api.Lit, ok bool) {
	t.Helper()
	if got, is := Tidy(c); !slices.Equal(got, want) || is != ok {
		t.Errorf("Tidy(%v) = %v, %v; want %v, %v", c, got, is, want, ok)
	}
}

// P13.1: literals stand once each, by their variables.
func TestTidy(t *testing.T) {
	for _, x := range []struct{ c, want []api.Lit }{
		{nil, nil},
		{lits(), nil},
		{lits(1), lits(1)},
		{lits(-1), lits(-1)},
		{lits(7), lits(7)},
		{lits(2, 2), lits(2)},
		{lits(-2, -2, -2), lits(-2)},
		{lits(1, 2, 1, 2), lits(1, 2)},
		{lits(3, -1, 3), lits(-1, 3)},
		{lits(3, 2, 1), lits(1, 2, 3)},
		{lits(-1, -2, -3), lits(-1, -2, -3)},
		{lits(-3, -2, -1), lits(-1, -2, -3)},
		{lits(-10, 9, -2, 1, 200, -201), lits(1, -2, 9, -10, 200, -201)},
		{lits(5000, 1, 5000), lits(1, 5000)},
	} {
		wantTidy(t, x.c, x.want, true)
	}
}

// P13.1: what has a literal and its denial always holds, wherever they stand, and whatever is beside them.
func TestTidyAlwaysHolds(t *testing.T) {
	for _, c := range [][]api.Lit{
		lits(1, -1), lits(-1, 1), lits(1, 1, -1), lits(-1, 1, -1),
		lits(1, 2, -1), lits(-2, 3, 1, 2), lits(3, 2, 1, -3), lits(1, -1, 2, -2),
		lits(200, 1, -200), lits(5, 4, 3, 2, 1, -3),
	} {
		wantTidy(t, c, nil, false)
	}
}

// P13.1: 0 is no literal.
func TestTidyZero(t *testing.T) {
	for _, c := range [][]api.Lit{
		lits(0), lits(0, 0), lits(0, 1), lits(1, 0), lits(-1, 0), lits(1, 0, 2), lits(-2, -1, 0), lits(0, 1, -1), lits(least, 0),
	} {
		wantTidy(t, c, nil, false)
	}
}

// P13.1: at both ends of the numbers: the least one is a literal whose denial there is none of.
func TestTidyEnds(t *testing.T) {
	wantTidy(t, lits(most), lits(most), true)
	wantTidy(t, lits(-most), lits(-most), true)
	wantTidy(t, lits(least), lits(least), true)
	wantTidy(t, lits(least, least), lits(least), true)
	wantTidy(t, lits(least, most), lits(most, least), true)
	wantTidy(t, lits(most, least), lits(most, least), true)
	wantTidy(t, lits(least, -most, least), lits(-most, least), true)
	wantTidy(t, lits(least, 2, -1), lits(-1, 2, least), true)
	wantTidy(t, lits(most, -1, -2), lits(-1, -2, most), true)
	wantTidy(t, lits(most, -most), nil, false)
	wantTidy(t, lits(-most, least, most), nil, false)
	wantTidy(t, lits(least, 1, -1), nil, false)
	wantTidy(t, lits(most-1, -most, least+2), nil, false)
	wantTidy(t, lits(-most, most-1), lits(most-1, -most), true)
}

// slowTidy tells what Tidy does by the document's words, with numbers of any size.
func slowTidy(c []api.Lit) ([]api.Lit, bool) {
	number := func(x api.Lit) *big.Int { return big.NewInt(int64(x)) }
	var l []api.Lit
	for _, x := range c {
		for _, y := range c {
			if new(big.Int).Add(number(x), number(y)).Sign() == 0 { // also of a 0 and itself
				return nil, false
			}
		}
		if !slices.Contains(l, x) {
			l = append(l, x)
		}
	}
	for i := range l {
		for j := i; j > 0 && number(l[j]).CmpAbs(number(l[j-1])) < 0; j-- {
			l[j], l[j-1] = l[j-1], l[j]
		}
	}
	return l, true
}

// P13.1: Tidy is as the document's words say, of all short rows of few literals.
func TestTidyAsWords(t *testing.T) {
	for _, c := range rows(5, lits(0, 1, -1, 2, -3, most, -most, least)) {
		want, ok := slowTidy(c)
		wantTidy(t, c, want, ok)
	}
}

// P13.1: Tidy is as the document's words say, of longer rows of more literals.
func TestTidyLongAsWords(t *testing.T) {
	p := picks(131)
	kept, refused := 0, 0
	for range 3000 {
		c := p.anyLits(60, 3000)
		want, ok := slowTidy(c)
		wantTidy(t, c, want, ok)
		if ok && len(want) > 10 {
			kept++
		}
		if !ok {
			refused++
		}
	}
	if kept < 500 || refused < 200 {
		t.Errorf("only %d, %d", kept, refused)
	}
}

// P13.1 with R3: of very many literals, too, it ends soon.
func TestTidyVeryMany(t *testing.T) {
	c := make([]api.Lit, 1000000)
	for i := range c {
		c[i] = api.Lit(len(c) - i)
	}
	got, ok := Tidy(c)
	if !ok || len(got) != len(c) || got[0] != 1 || got[len(got)-1] != api.Lit(len(c)) || !slices.IsSorted(got) {
		t.Error("a row that falls")
	}
	c[0] = -1
	wantTidy(t, c, nil, false)
	wantTidy(t, slices.Repeat(lits(-3, 2), 500000), lits(2, -3), true)
}
