package prop

import (
	"slices"

	"chandler/api"
)

// follow takes all that the clauses force, and only then looks for a clash.
func (t *Trail) follow() {
	for t.round() {
	}
	t.clashed = slices.IndexFunc(t.clauses, t.isClash) + 1
}

// round goes over the clauses from the first on and takes at once what each forces; false, if none forced anything.
func (t *Trail) round() bool {
	before := len(t.lits)
	for _, c := range t.clauses {
		if l := t.forced(c); l != 0 {
			t.take(l)
		}
	}
	return len(t.lits) > before
}

// forced tells the literal of c that is open, if all its others are false; 0, if there is no such one.
func (t *Trail) forced(c []api.Lit) api.Lit {
	var open api.Lit
	for _, l := range c {
		value := t.value(l)
		if value > 0 || value == 0 && open != 0 {
			return 0
		}
		if value == 0 {
			open = l
		}
	}
	return open
}

// isClash tells whether all literals of c are false.
func (t *Trail) isClash(c []api.Lit) bool {
	return !slices.ContainsFunc(c, func(l api.Lit) bool { return t.value(l) >= 0 })
}

// take puts l, which is open, on the trail.
func (t *Trail) take(l api.Lit) {
	t.lits = append(t.lits, l)
	if l > 0 {
		t.values[place(l)] = 1
	} else {
		t.values[place(l)] = -1
	}
}

// value tells 1, -1, 0, as the literal l of a variable is true, false, open (neither).
func (t *Trail) value(l api.Lit) int {
	if l < 0 {
		return -t.values[place(l)]
	}
	return t.values[place(l)]
}

// isLit tells whether l is a literal of a variable.
func (t *Trail) isLit(l api.Lit) bool {
	if t == nil {
		return false
	}
	// Without turning l's sign: the least of all numbers has none above 0 to turn to.
	last := api.Lit(len(t.values))
	return l != 0 && -last <= l && l <= last
}

// place tells where the value of a literal's variable stands.
func place(l api.Lit) int {
	return int(max(l, -l)) - 1
}
