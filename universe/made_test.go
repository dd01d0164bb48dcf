package universe

import (
	"fmt"
	"slices"
	"strconv"
	"strings"
	"testing"

	"chandler/api"
	"chandler/record"
)

// pkg tells the package of a text: its name and version, then more fields, with `; ` between them all.
func pkg(s string) api.Package {
	s = strings.ReplaceAll(strings.Replace(s, " ", "\nVersion: ", 1), "; ", "\n")
	l, at := record.Packages([]byte("Package: " + s))
	if at.Err != api.OK || len(l) != 1 {
		panic(s)
	}
	return l[0]
}

// pkgs tells packages, each of a text.
func pkgs(texts ...string) []api.Package {
	var l []api.Package
	for _, s := range texts {
		l = append(l, pkg(s))
	}
	return l
}

// ent tells the entry of a text: `+` (configured) or `-` (unpacked), `!` (held) or nothing, the package.
func ent(s string) api.Entry {
	rest, held := strings.CutPrefix(s[1:], "!")
	if s[0] != '+' && s[0] != '-' {
		panic(s)
	}
	return api.Entry{Pkg: pkg(rest), Configured: s[0] == '+', Hold: held}
}

// ents tells entries, each of a text.
func ents(texts ...string) []api.Entry {
	var l []api.Entry
	for _, s := range texts {
		l = append(l, ent(s))
	}
	return l
}

// there tells l as entries, in their order.
func there(l ...api.Package) []api.Entry {
	var s []api.Entry
	for _, p := range l {
		s = append(s, api.Entry{Pkg: p, Configured: true})
	}
	return s
}

// full tells a package that has something in each field.
func full(name string) api.Package {
	return pkg(name + " 1:2-3; Essential: yes; Pre-Depends: bb; Depends: cc (>= 1) | dd, ee (<< 2); Recommends: ff (= 1), gg | hh; Conflicts: jj, kk (>> 1); Breaks: ll (<= 2); Provides: mm (= 3), nn")
}

// many tells so many of x.
func many[T any](n int, x T) []T {
	return slices.Repeat([]T{x}, n)
}

// versions tells packages of one name, of n versions, the greatest first, which is first.
func versions(name string, first, n int) []api.Package {
	var l []api.Package
	for i := range n {
		l = append(l, pkg(name+" "+strconv.Itoa(first-i)))
	}
	return l
}

// row tells packages of n unlike names, which rise from the one of that number on.
func row(first, n int) []api.Package {
	var l []api.Package
	for i := range n {
		l = append(l, pkg("p"+strconv.Itoa(100+first+i)+" 1"))
	}
	return l
}

// orders tells l in each order.
func orders[T any](l []T) [][]T {
	if len(l) == 0 {
		return [][]T{nil}
	}
	var all [][]T
	for _, rest := range orders(l[1:]) {
		for i := range l {
			all = append(all, slices.Insert(slices.Clone(rest), i, l[0]))
		}
	}
	return all
}

// show tells all that x has: nil and empty lists alike, and unlike texts unlike.
func show(x any) string {
	return fmt.Sprintf("%+q", x)
}

// short tells which packages l has: of each its name, a `=` and its version, with a space between.
func short(l []api.Package) string {
	var words []string
	for _, p := range l {
		words = append(words, p.Name+"="+p.Version)
	}
	return strings.Join(words, " ")
}

// wantAll fails, if All(repo, s) is not just the packages want, in all their fields.
func wantAll(t *testing.T, repo []api.Package, s []api.Entry, want ...api.Package) {
	t.Helper()
	got, e := All(repo, s)
	if e != api.OK || len(got) != len(want) || len(got) > 0 && show(got) != show(want) {
		t.Errorf("All(%.600s, %.600s) = %.600s, %d; want %.600s", show(repo), show(s), show(got), e, show(want))
	}
}

// wantOf fails, if what is reached from these names, with a space between, is not want, as short tells it, and as All tells each.
func wantOf(t *testing.T, repo []api.Package, s []api.Entry, names, want string) {
	t.Helper()
	got, e := Of(repo, s, strings.Fields(names))
	if e != api.OK || short(got) != want {
		t.Errorf("Of(%.600s, %.600s, %.200q) = %q, %d; want %q", show(repo), show(s), names, short(got), e, want)
	}
	all, _ := All(repo, s)
	for _, p := range got {
		if !slices.ContainsFunc(all, func(q api.Package) bool { return record.Same(p, q) }) {
			t.Errorf("%s is none of %.600s", show(p), show(all))
		}
	}
}

// wantRefused fails, if All and Of, from whatever names, do not tell that error, and nothing beside it.
func wantRefused(t *testing.T, want api.Errno, repo []api.Package, s []api.Entry) {
	t.Helper()
	if l, e := All(repo, s); len(l) > 0 || e != want {
		t.Errorf("All(%.400s, %.400s) = %s, %d; want %d", show(repo), show(s), short(l), e, want)
	}
	for _, names := range [][]string{nil, {"aa"}, {"zz", ""}} {
		if l, e := Of(repo, s, names); len(l) > 0 || e != want {
			t.Errorf("Of(%.400s, %.400s, %q) = %s, %d; want %d", show(repo), show(s), names, short(l), e, want)
		}
	}
}
