package state

import (
	"fmt"
	"slices"
	"strconv"
	"strings"
	"testing"

	"chandler/api"
	"chandler/record"
)

// pkg tells the package of a text: its name and version, then more fields, with `; ` between them all.
func pkg(s string) api.Package {
	s = strings.ReplaceAll(strings.Replace(s, " ", "\nVersion: ", 1), "; ", "\n")
	l, at := record.Packages([]byte("Package: " + s))
	if at.Err != api.OK || len(l) != 1 {
		panic(s)
	}
	return l[0]
}

// pkgs tells packages, each of a text.
func pkgs(texts ...string) []api.Package {
	var l []api.Package
	for _, s := range texts {
		l = append(l, pkg(s))
	}
	return l
}

// ent tells the entry of a text: `+` (configured) or `-` (unpacked), `!` (held) or nothing, the package.
func ent(s string) api.Entry {
	rest, held := strings.CutPrefix(s[1:], "!")
	if s[0] != '+' && s[0] != '-' {
		panic(s)
	}
	return api.Entry{Pkg: pkg(rest), Configured: s[0] == '+', Hold: held}
}

// ents tells entries, each of a text.
func ents(texts ...string) []api.Entry {
	var l []api.Entry
	for _, s := range texts {
		l = append(l, ent(s))
	}
	return l
}

// viols tells violations of a text, with `; ` between: each a name, a field, a place, and of a clash the other's name.
func viols(s string) []api.Violation {
	var l []api.Violation
	for _, one := range strings.Split(s, "; ") {
		words := strings.Fields(one)
		if len(words) == 0 {
			continue
		}
		i, _ := strconv.Atoi(words[2])
		v := api.Violation{Name: words[0], I: i}
		switch words[1] {
		case "Pre-Depends":
			v.Kind, v.Pre = api.VDepends, true
		case "Depends":
			v.Kind = api.VDepends
		case "Conflicts":
			v.Kind, v.Other = api.VConflicts, words[3]
		case "Breaks":
			v.Kind, v.Other = api.VBreaks, words[3]
		default:
			panic(s)
		}
		l = append(l, v)
	}
	return l
}

// full tells a package that has something in each field.
func full(name string) api.Package {
	return pkg(name + " 1:2-3; Essential: yes; Pre-Depends: bb; Depends: cc (>= 1) | dd, ee (<< 2); Recommends: ff (= 1), gg | hh; Conflicts: jj, kk (>> 1); Breaks: ll (<= 2); Provides: mm (= 3), nn")
}

// many tells so many of x.
func many[T any](n int, x T) []T {
	return slices.Repeat([]T{x}, n)
}

// named tells that many packages of unlike names, which rise.
func named(n int) []api.Package {
	var l []api.Package
	for i := range n {
		l = append(l, api.Package{Name: "p" + strconv.Itoa(10000+i), Version: "1"})
	}
	return l
}

// orders tells l in each order.
func orders[T any](l []T) [][]T {
	if len(l) == 0 {
		return [][]T{nil}
	}
	var all [][]T
	for _, rest := range orders(l[1:]) {
		for i := range l {
			all = append(all, slices.Insert(slices.Clone(rest), i, l[0]))
		}
	}
	return all
}

// show tells all that x has: nil and empty lists alike, and unlike texts unlike.
func show(x any) string {
	return fmt.Sprintf("%+q", x)
}

// wantWrong fails, if what is wrong with l is not just want.
func wantWrong(t *testing.T, want string, l ...api.Entry) {
	t.Helper()
	if got := Wrong(l); !slices.Equal(got, viols(want)) {
		t.Errorf("wrong with %.600s: %+v; want %s", show(l), got, want)
	}
}

// wantHealthy fails, if Healthy(l), in any order of few, is not want.
func wantHealthy(t *testing.T, want bool, l ...api.Package) {
	t.Helper()
	all := [][]api.Package{l}
	if len(l) <= 4 {
		all = orders(l)
	}
	for _, l := range all {
		if Healthy(l) != want {
			t.Errorf("Healthy(%.600s) is not %t", show(l), want)
		}
	}
}

// wantEntries fails, if the entries are not want.
func wantEntries(t *testing.T, got []api.Entry, want ...api.Entry) {
	t.Helper()
	if len(got) != len(want) || len(got) > 0 && show(got) != show(want) {
		t.Errorf("entries %.600s; want %.600s", show(got), show(want))
	}
}

// wantFind fails, if the first of that name does not stand at that place; below 0: if there is one.
func wantFind(t *testing.T, l []api.Entry, name string, want int) {
	t.Helper()
	if got, ok := Find(l, name); got != max(want, 0) || ok != (want >= 0) {
		t.Errorf("Find(%.400s, %.100q) = %d, %t; want %d", show(l), name, got, ok, want)
	}
}

// wantSame fails, if Same(a, b), or turned round, is not want.
func wantSame(t *testing.T, want bool, a, b []api.Entry) {
	t.Helper()
	if Same(a, b) != want || Same(b, a) != want {
		t.Errorf("Same(%.400s, %.400s) is not %t", show(a), show(b), want)
	}
}

// wantWithin fails, if Within(a, b) is not want.
func wantWithin(t *testing.T, want bool, a, b []api.Violation) {
	t.Helper()
	if Within(a, b) != want {
		t.Errorf("Within(%+v, %+v) is not %t", a, b, want)
	}
}
