package version

import (
	"testing"

	"chandler/api"
)

// rows tells each row of up to n of these parts.
func rows(n int, parts ...string) []string {
	all, last := []string{""}, []string{""}
	for range n {
		var next []string
		for _, s := range last {
			for _, p := range parts {
				next = append(next, s+p)
			}
		}
		all, last = append(all, next...), next
	}
	return all
}

// wantAnOrder fails, if compare is no order of l: turned round it is turned, earlier and earlier again is earlier,
// and what is the same stands alike to all others.
func wantAnOrder(t *testing.T, compare func(a, b string) int, l []string) {
	t.Helper()
	orders := make([][]int, len(l))
	for i, a := range l {
		orders[i] = make([]int, len(l))
		for j, b := range l {
			orders[i][j] = compare(a, b)
		}
	}
	for i := range l {
		for j := range l {
			if orders[i][j] != -orders[j][i] || i == j && orders[i][j] != 0 {
				t.Fatalf("%q and %q: %d, turned round %d", l[i], l[j], orders[i][j], orders[j][i])
			}
			for k := range l {
				if first, second := orders[i][j], orders[j][k]; first <= 0 && second <= 0 && orders[i][k] != min(first, second) {
					t.Fatalf("%q, %q, %q: %d, %d, but %d", l[i], l[j], l[k], first, second, orders[i][k])
				}
			}
		}
	}
}

// P6.5: Compare is an order of all short versions of the signs at which it turns.
func TestCompareOrder(t *testing.T) {
	var l []string
	for _, s := range rows(5, ":", "-", "0", "1", "a", "~", "+") {
		// Of the longest ones those with both an epoch and a revision will do.
		if _, _, revision, e := Parse(s); e == api.OK && (len(s) < 5 || s[1] == ':' && revision != "") {
			l = append(l, s)
		}
	}
	wantAnOrder(t, Compare, l)
}

// P6.5: and so is Part, of all short texts.
func TestPartOrder(t *testing.T) {
	wantAnOrder(t, Part, rows(3, "~", "0", "1", "a", "Z", "+", "\xff"))
}

// P6.5: a version's parts, put together, are a version with these parts, and the same one.
func TestParseFollow(t *testing.T) {
	for _, s := range rows(5, ":", "-", "0", "1", "a", "~") {
		epoch, upstream, revision, e := Parse(s)
		if e != api.OK {
			continue
		}
		whole := epoch + ":" + upstream
		if revision != "" {
			whole += "-" + revision
		}
		wantParts(t, whole, epoch, upstream, revision)
		if !Same(s, whole) || !Same(whole, s) {
			t.Errorf("%q is not the same as %q", s, whole)
		}
	}
}

// P6.5: what holds of two versions is one of <<, = and >>, and the others by these.
func TestHoldsFollow(t *testing.T) {
	l := rows(4, ":", "-", "0", "1", "~")
	for _, a := range l {
		for _, b := range l {
			lt, le, eq, ge, gt := Holds(api.RLt, a, b), Holds(api.RLe, a, b), Holds(api.REq, a, b), Holds(api.RGe, a, b), Holds(api.RGt, a, b)
			if both := isVersion(a) && isVersion(b); both != (lt || eq || gt) {
				t.Fatalf("%q and %q: %v", a, b, both)
			}
			if lt && eq || lt && gt || eq && gt || le != (lt || eq) || ge != (gt || eq) || eq != Same(a, b) || lt != Holds(api.RGt, b, a) {
				t.Fatalf("%q and %q: %v %v %v %v %v", a, b, lt, le, eq, ge, gt)
			}
		}
	}
}
