package index

import (
	"fmt"
	"slices"
	"strconv"
	"strings"
	"testing"

	"chandler/api"
	"chandler/record"
	"chandler/relation"
)

// pkg tells the package of a text: its name and version, then more fields, with `; ` between them all.
func pkg(s string) api.Package {
	s = strings.ReplaceAll(strings.Replace(s, " ", "\nVersion: ", 1), "; ", "\n")
	l, at := record.Packages([]byte("Package: " + s))
	if at.Err != api.OK || len(l) != 1 {
		panic(s)
	}
	return l[0]
}

// pkgs tells packages, each of a text.
func pkgs(texts ...string) []api.Package {
	var l []api.Package
	for _, s := range texts {
		l = append(l, pkg(s))
	}
	return l
}

// atom tells the atom that s is.
func atom(s string) api.Atom {
	a, e := relation.ParseAtom(s)
	if e != api.OK {
		panic(s)
	}
	return a
}

// many tells so many of x.
func many[T any](n int, x T) []T {
	return slices.Repeat([]T{x}, n)
}

// versions tells packages of one name, of the versions from one up to n.
func versions(name string, n int) []api.Package {
	var l []api.Package
	for i := range n {
		l = append(l, pkg(name+" "+strconv.Itoa(i+1)))
	}
	return l
}

// named tells that many packages of unlike names, which rise.
func named(n int) []api.Package {
	var l []api.Package
	for i := range n {
		l = append(l, pkg("p"+strconv.Itoa(100+i)+" 1"))
	}
	return l
}

// show tells all that x has: nil and empty lists alike, and unlike texts unlike.
func show(x any) string {
	return fmt.Sprintf("%q", x)
}

// all tells the packages of x, from place to place.
func all(t *testing.T, x *Index) []api.Package {
	t.Helper()
	var l []api.Package
	for i := range x.Len() {
		p, ok := x.At(i)
		if !ok {
			t.Fatalf("nothing at %d of %d", i, x.Len())
		}
		l = append(l, p)
	}
	return l
}

// build tells an index of l.
func build(t *testing.T, l ...api.Package) *Index {
	t.Helper()
	x, e := New(l)
	if e != api.OK || x == nil {
		t.Fatalf("New(%.400s) = %v, %d", show(l), x, e)
	}
	return x
}

// wantIndex fails, if the packages of x are not want, place by place.
func wantIndex(t *testing.T, x *Index, want ...api.Package) {
	t.Helper()
	if got := all(t, x); x.Len() != len(want) || show(got) != show(want) {
		t.Errorf("%d packages, %.600s; want %.600s", x.Len(), show(got), show(want))
	}
}

// wantRefused fails, if New(l) does not tell that error, and nothing beside it.
func wantRefused(t *testing.T, want api.Errno, l ...api.Package) {
	t.Helper()
	if x, e := New(l); x != nil || e != want {
		t.Errorf("New(%.400s) = %v, %d; want %d", show(l), x, e, want)
	}
}

// wantNothing fails, if there is anything at the place i.
func wantNothing(t *testing.T, x *Index, i int) {
	t.Helper()
	if p, ok := x.At(i); ok || show(p) != show(api.Package{}) {
		t.Errorf("At(%d) = %s, %t", i, show(p), ok)
	}
}

// wantNames fails, if the names are not want, with a space between.
func wantNames(t *testing.T, x *Index, want string) {
	t.Helper()
	if got := strings.Join(x.Names(), " "); got != want {
		t.Errorf("names %s; want %s", got, want)
	}
}

// wantOf fails, if the places of that name are not want.
func wantOf(t *testing.T, x *Index, name string, want ...int) {
	t.Helper()
	if got := x.Of(name); !slices.Equal(got, want) {
		t.Errorf("Of(%.100q) = %v; want %v", name, got, want)
	}
}

// wantFind fails, if that version does not stand at that place.
func wantFind(t *testing.T, x *Index, name, v string, want int) {
	t.Helper()
	if got, ok := x.Find(name, v); got != want || !ok {
		t.Errorf("Find(%q, %q) = %d, %t; want %d", name, v, got, ok, want)
	}
}

// wantLost fails, if that version is found.
func wantLost(t *testing.T, x *Index, name, v string) {
	t.Helper()
	if got, ok := x.Find(name, v); got != 0 || ok {
		t.Errorf("Find(%.100q, %.100q) = %d, %t", name, v, got, ok)
	}
}

// wantMeets fails, if the places of what meets a are not want.
func wantMeets(t *testing.T, x *Index, a api.Atom, want ...int) {
	t.Helper()
	if got := x.Meets(a); !slices.Equal(got, want) {
		t.Errorf("Meets(%.200s) = %v; want %v", show(a), got, want)
	}
}

// wantSatisfies fails, if Satisfies(p, a) is not want.
func wantSatisfies(t *testing.T, p api.Package, a api.Atom, want bool) {
	t.Helper()
	if Satisfies(p, a) != want {
		t.Errorf("Satisfies(%.400s, %.200s) is not %t", show(p), show(a), want)
	}
}

// wantClash fails, if Clash(p, q), or turned round, is not want.
func wantClash(t *testing.T, p, q api.Package, want bool) {
	t.Helper()
	if Clash(p, q) != want || Clash(q, p) != want {
		t.Errorf("Clash(%.400s, %.400s) is not %t", show(p), show(q), want)
	}
}
