package state

import (
	"testing"

	"chandler/api"
)

// spoilList overwrites l, and what has room behind it.
func spoilList[S ~[]T, T any](l S, x T) {
	l = l[:cap(l)]
	for i := range l {
		l[i] = x
	}
}

// spoil overwrites all that p's lists have, and what has room behind them.
func spoil(p api.Package) {
	for _, l := range [][]api.Clause{p.PreDepends, p.Depends, p.Recommends} {
		for _, c := range l {
			spoilList(c, api.Atom{Name: "spoilt"})
		}
		spoilList(l, api.Clause{{Name: "spoilt"}})
	}
	spoilList(p.Conflicts, api.Atom{Name: "spoilt"})
	spoilList(p.Breaks, api.Atom{Name: "spoilt"})
	spoilList(p.Provides, api.Provide{Name: "spoilt"})
}

// some tells entries of which two have something in each list.
func some() []api.Entry {
	return []api.Entry{{Pkg: full("bb"), Configured: true}, ent("-!aa 1; Depends: cc"), {Pkg: full("cc"), Hold: true}}
}

// somePackages tells the packages of some.
func somePackages() []api.Package {
	var l []api.Package
	for _, x := range some() {
		l = append(l, x.Pkg)
	}
	return l
}

// P11.1 to P11.3 with R2: what is handed in is not changed.
func TestHandedIn(t *testing.T) {
	l, packages, a, b := some(), somePackages(), viols("bb Depends 1; aa Depends 0"), viols("aa Depends 0; bb Depends 1")
	before := show(l) + show(packages) + show(a) + show(b)
	Healthy(packages)
	Wrong(l)
	Sorted(l)
	Find(l, "bb")
	Same(l, some())
	Within(a, b)
	Whole(packages, l)
	if show(l)+show(packages)+show(a)+show(b) != before {
		t.Errorf("changed: %s, %s, %v, %v", show(l), show(packages), a, b)
	}
}

// P11.3 with R2: what Sorted tells is its own: either may be changed, and the other one is as it was.
func TestSortedOwn(t *testing.T) {
	l := some()
	told, second := Sorted(l), Sorted(l)
	for _, x := range told {
		spoil(x.Pkg)
	}
	spoilList(told, api.Entry{})
	wantEntries(t, l, some()...)
	for _, x := range l {
		spoil(x.Pkg)
	}
	spoilList(l, api.Entry{})
	wantEntries(t, second, some()[1], some()[0], some()[2])
}

// P11.3 with R2: what Whole tells is its own: packages, entries and answers may be changed, and the others are as they were.
func TestWholeOwn(t *testing.T) {
	l, s := somePackages(), some()
	told, second := Whole(l, s), Whole(l, s)
	for _, x := range told {
		spoil(x.Pkg)
	}
	spoilList(told, api.Entry{})
	if show(l) != show(somePackages()) || show(s) != show(some()) {
		t.Errorf("shared: %s, %s", show(l), show(s))
	}
	for i, p := range l {
		spoil(p)
		spoil(s[i].Pkg)
	}
	spoilList(l, api.Package{})
	spoilList(s, api.Entry{})
	wantEntries(t, second, api.Entry{Pkg: some()[1].Pkg, Configured: true, Hold: true}, api.Entry{Pkg: full("bb"), Configured: true}, api.Entry{Pkg: full("cc"), Configured: true, Hold: true})
}

// P11.3 with R2: no two lists of one answer share memory, even if those that were handed in did.
func TestToldLists(t *testing.T) {
	c := api.Clause{{Name: "bb"}}
	l := []api.Clause{c, c}
	p := api.Package{Name: "aa", Version: "1", PreDepends: l, Depends: l, Recommends: l, Conflicts: c, Breaks: c}
	want := show(p)
	for _, told := range [][]api.Entry{Sorted([]api.Entry{{Pkg: p}, {Pkg: p}}), Whole([]api.Package{p, p}, nil)} {
		spoilList(told[0].Pkg.PreDepends[0], api.Atom{Name: "spoilt"})
		spoilList(told[0].Pkg.Conflicts, api.Atom{Name: "spoilt"})
		q := told[0].Pkg
		rest := []api.Clause{q.PreDepends[1], q.Depends[0], q.Depends[1], q.Recommends[0], q.Recommends[1], q.Breaks}
		if show(rest) != show(many(6, c)) || show(told[1].Pkg) != want || show(p) != want {
			t.Errorf("shared: %s", show(told))
		}
		spoilList(q.Depends, api.Clause{{Name: "spoilt"}})
		if show(q.Recommends) != show(l) || show(told[1].Pkg) != want || show(p) != want {
			t.Errorf("shared: %s", show(told))
		}
	}
}

// P11.2 with R2: violations that were told may be changed; the next ones are as they were.
func TestWrongOwn(t *testing.T) {
	l := ents("+aa 1; Depends: bb, cc; Conflicts: dd", "-dd 1; Breaks: aa")
	for range 3 {
		wantWrong(t, "aa Depends 0; aa Depends 1; aa Conflicts 0 dd; dd Breaks 0 aa", l...)
		spoilList(Wrong(l), api.Violation{Name: "spoilt"})
	}
}

// P11.1 to P11.3 with R2: what lies behind the lengths of lists is neither read nor written.
func TestBehindLength(t *testing.T) {
	row := []api.Atom{{Name: "zz"}, {Name: "bb"}, {Name: "spare"}}
	p := pkg("aa 1")
	p.PreDepends = []api.Clause{row[:2], {{Name: "yy"}}}[:1]
	p.Depends = []api.Clause{row[:1], row[:2]}[1:2]
	p.Conflicts, p.Breaks = row[:1], row[:1]
	q := pkg("bb 1; Provides: vv, zz")
	q.Provides = q.Provides[:1]
	packages := []api.Package{p, q, {Name: "aa"}}
	before := show(packages) + show(row)
	wantHealthy(t, true, packages[:2]...)
	l := append(configured(packages), ent("+zz 1"))
	wantWrong(t, "", l[:2]...)
	wantEntries(t, Sorted(l[:2]), l[:2]...)
	wantEntries(t, Whole(packages[:2], l[:2]), l[:2]...)
	wantFind(t, l[:2], "zz", -1)
	wantSame(t, true, l[:2], append(configured(packages[:2]), api.Entry{})[:2])
	both := viols("aa Depends 0; bb Depends 0")
	wantWithin(t, false, both[1:], both[:1])
	wantWithin(t, true, both[:1], both[:1])
	if show(packages)+show(row) != before || l[3].Pkg.Name != "zz" || both[1].Name != "bb" {
		t.Errorf("changed: %s, %s", show(packages), show(row))
	}
}
