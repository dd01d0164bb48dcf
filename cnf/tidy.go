package cnf

import (
	"cmp"
	"slices"

	"chandler/api"
)

// Tidy tells the literals of c, each once, by their variables, rising; false, if it always holds, or has a 0.
func Tidy(c []api.Lit) ([]api.Lit, bool) {
	l := slices.Clone(c)
	slices.SortFunc(l, byVariable)
	l = slices.Compact(l)
	// Those of one variable stand side by side now: if they are not all alike, two of them that do are denials of each other.
	for i, x := range l {
		if x == 0 || i > 0 && x == -l[i-1] {
			return nil, false
		}
	}
	return l, true
}

// byVariable holds a and b against each other by their variables.
func byVariable(a, b api.Lit) int {
	return cmp.Compare(variable(a), variable(b))
}

// variable tells the variable of x: without a sign, since that of the least Lit is above the greatest one.
func variable(x api.Lit) uint64 {
	if x < 0 {
		return -uint64(x)
	}
	return uint64(x)
}
