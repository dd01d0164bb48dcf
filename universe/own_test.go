package universe

import (
	"slices"
	"testing"

	"chandler/api"
)

// spoilList overwrites l, and what has room behind it.
func spoilList[S ~[]T, T any](l S, x T) {
	l = l[:cap(l)]
	for i := range l {
		l[i] = x
	}
}

// spoil overwrites all that p's lists have, and what has room behind them.
func spoil(p api.Package) {
	for _, l := range [][]api.Clause{p.PreDepends, p.Depends, p.Recommends} {
		for _, c := range l {
			spoilList(c, api.Atom{Name: "spoilt"})
		}
		spoilList(l, api.Clause{{Name: "spoilt"}})
	}
	spoilList(p.Conflicts, api.Atom{Name: "spoilt"})
	spoilList(p.Breaks, api.Atom{Name: "spoilt"})
	spoilList(p.Provides, api.Provide{Name: "spoilt"})
}

// someRepo tells packages to be had, of which two have something in each list, and one is there anyway.
func someRepo() []api.Package {
	return []api.Package{full("ff"), pkg("bb 1; Recommends: aa"), full("aa"), pkg("cc 01; Provides: spare")}
}

// someState tells entries, of which two have something in each list.
func someState() []api.Entry {
	return []api.Entry{{Pkg: full("bb"), Hold: true}, ent("+cc 1; Depends: ff"), {Pkg: full("ee"), Configured: true}}
}

// someAll tells all of someRepo and someState.
func someAll() []api.Package {
	return []api.Package{full("aa"), full("bb"), pkg("bb 1; Recommends: aa"), pkg("cc 1; Depends: ff"), full("ee"), full("ff")}
}

// calls tells All, and Of by which all is reached, too.
func calls() []func(repo []api.Package, s []api.Entry) []api.Package {
	return []func(repo []api.Package, s []api.Entry) []api.Package{
		func(repo []api.Package, s []api.Entry) []api.Package {
			l, _ := All(repo, s)
			return l
		},
		func(repo []api.Package, s []api.Entry) []api.Package {
			l, _ := Of(repo, s, []string{"zz", "aa"})
			return l
		},
	}
}

// wantPackages fails, if l is not want, in all fields.
func wantPackages(t *testing.T, l, want []api.Package) {
	t.Helper()
	if show(l) != show(want) {
		t.Errorf("packages %.800s; want %.800s", show(l), show(want))
	}
}

// P12.1, P12.2 with R2: what is handed in is not changed.
func TestHandedIn(t *testing.T) {
	repo, s, names := someRepo(), someState(), []string{"ff", "aa", "zz"}
	for range 2 {
		All(repo, s)
		Of(repo, s, names)
		All(repo, []api.Entry{s[1], s[0]})
		Of(append(repo, repo[0]), s, names)
	}
	wantPackages(t, repo, someRepo())
	if show(s) != show(someState()) || !slices.Equal(names, []string{"ff", "aa", "zz"}) {
		t.Errorf("changed: %s, %q", show(s), names)
	}
}

// P12.1, P12.2 with R2: what was handed in may be changed behind the call; what was told is as it was.
func TestHandedInSpoilt(t *testing.T) {
	for _, call := range calls() {
		repo, s := someRepo(), someState()
		told := call(repo, s)
		for _, p := range repo {
			spoil(p)
		}
		for _, x := range s {
			spoil(x.Pkg)
		}
		spoilList(repo, pkg("zz 1"))
		spoilList(s, ent("+zz 1"))
		wantPackages(t, told, someAll())
	}
}

// P12.2 with R2: names that were handed in may be changed behind the call; the next one keeps nothing of them.
func TestNamesSpoilt(t *testing.T) {
	repo, names := pkgs("aa 1; Depends: bb", "bb 1", "cc 1"), []string{"aa"}
	told, _ := Of(repo, nil, names)
	spoilList(names, "cc")
	wantPackages(t, told, repo[:2])
	wantOf(t, repo, nil, "bb", "bb=1")
	wantOf(t, repo, nil, "", "")
	wantOf(t, repo, ents("+cc 1"), "", "cc=1")
	wantOf(t, repo[:1], nil, "aa bb", "aa=1")
}

// P12.1, P12.2 with R2: what was told may be changed; what was handed in, and other answers, are as they were.
func TestToldSpoilt(t *testing.T) {
	for _, call := range calls() {
		repo, s := someRepo(), someState()
		first, second := call(repo, s), call(repo, s)
		for _, p := range first {
			spoil(p)
		}
		spoilList(first, pkg("zz 1"))
		wantPackages(t, second, someAll())
		wantPackages(t, repo, someRepo())
		if show(s) != show(someState()) {
			t.Errorf("changed: %s", show(s))
		}
		wantPackages(t, call(repo, s), someAll())
	}
}

// P12.1, P12.2 with R2: no two lists of one answer share memory, even if those that were handed in did.
func TestToldLists(t *testing.T) {
	c := api.Clause{{Name: "bb"}}
	l := []api.Clause{c, c}
	p := api.Package{Name: "aa", Version: "1", PreDepends: l, Depends: l, Recommends: l, Conflicts: c, Breaks: c}
	q := p
	q.Name = "bb"
	before := show(p)
	for _, call := range calls() {
		told := call([]api.Package{q}, there(p))
		want := show(told[1])
		x := told[0]
		spoilList(x.PreDepends[0], api.Atom{Name: "spoilt"})
		spoilList(x.Conflicts, api.Atom{Name: "spoilt"})
		rest := []api.Clause{x.PreDepends[1], x.Depends[0], x.Depends[1], x.Recommends[0], x.Recommends[1], x.Breaks}
		if show(rest) != show(many(6, c)) || show(told[1]) != want || show(p) != before {
			t.Errorf("shared: %s", show(told))
		}
		spoilList(x.Depends, api.Clause{{Name: "spoilt"}})
		if show(x.Recommends) != show(l) || show(told[1]) != want || show(p) != before {
			t.Errorf("shared: %s", show(told))
		}
	}
}

// P12.1, P12.2 with R2: what lies behind the lengths of lists is neither read nor written.
func TestBehindLength(t *testing.T) {
	atoms := []api.Atom{{Name: "bb"}, {Name: "cc"}}
	p := pkg("aa 1")
	p.PreDepends = []api.Clause{atoms[:1], {{Name: "cc"}}}[:1]
	p.Depends = []api.Clause{{{Name: "bb"}}, {{Name: "cc"}}}[:1]
	p.Recommends = p.Depends[1:1]
	q := pkg("cc 1; Provides: bb")
	q.Provides = q.Provides[:0]
	repo := append(pkgs("bb 1"), p, q, pkg("dd 1"), api.Package{Name: "a"})
	s := append(ents("+ee 1"), ent("+dd 2"), api.Entry{})
	names := []string{"aa", "zz", "cc"}
	before := show(repo) + show(s)
	wantAll(t, repo[:4], s[:1], p, pkg("bb 1"), q, pkg("dd 1"), pkg("ee 1"))
	if l, e := Of(repo[:4], s[:1], names[:2]); e != api.OK || short(l) != "aa=1 bb=1 ee=1" {
		t.Errorf("reached: %s, %d", short(l), e)
	}
	if show(repo)+show(s) != before || atoms[1].Name != "cc" || names[2] != "cc" || p.Depends[:2][1][0].Name != "cc" || q.Provides[:1][0].Name != "bb" {
		t.Errorf("changed: %s, %s, %q", show(repo), show(s), names)
	}
}
