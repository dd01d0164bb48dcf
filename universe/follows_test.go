package universe

import (
	"slices"
	"testing"

	"chandler/api"
	"chandler/index"
	"chandler/record"
	"chandler/state"
	"chandler/version"
)

// picks is a row of numbers that goes every which way, but always the same one.
type picks uint32

// pick tells the next number, at least 0 and below n.
func (p *picks) pick(n int) int {
	*p = *p*1664525 + 1013904223
	return int(*p>>8) % n
}

// one tells one of l.
func one[T any](p *picks, l []T) T {
	return l[p.pick(len(l))]
}

// anyName tells a name of a package.
func (p *picks) anyName() string {
	return one(p, []string{"aa", "bb", "cc", "dd", "ee", "ff"})
}

// anyVersion tells one of few versions, of which some are the same.
func (p *picks) anyVersion() string {
	return one(p, []string{"1", "2", "3", "03", "3-0"})
}

// anyAtom tells an atom that may be.
func (p *picks) anyAtom() api.Atom {
	a := api.Atom{Name: one(p, []string{p.anyName(), p.anyName(), "vv", "ww", "zz"}), Rel: p.pick(api.RGt + 1)}
	if a.Rel != api.RAny {
		a.Version = p.anyVersion()
	}
	return a
}

// anyAtoms tells a few atoms, mostly none.
func (p *picks) anyAtoms() []api.Atom {
	var l []api.Atom
	for range one(p, []int{0, 0, 0, 1, 2}) {
		l = append(l, p.anyAtom())
	}
	return l
}

// anyClauses tells a few clauses, mostly none.
func (p *picks) anyClauses() []api.Clause {
	var l []api.Clause
	for range one(p, []int{0, 0, 0, 1, 2}) {
		l = append(l, append(api.Clause{p.anyAtom()}, p.anyAtoms()...))
	}
	return l
}

// anyPackage tells a package that may be.
func (p *picks) anyPackage(name string) api.Package {
	x := api.Package{Name: name, Version: p.anyVersion(), PreDepends: p.anyClauses(), Depends: p.anyClauses(), Recommends: p.anyClauses(), Conflicts: p.anyAtoms(), Breaks: p.anyAtoms()}
	for range one(p, []int{0, 0, 0, 1, 2}) {
		provided := api.Provide{Name: one(p, []string{"vv", "ww", p.anyName()})}
		if p.pick(2) == 0 {
			provided.Version = p.anyVersion()
		}
		x.Provides = append(x.Provides, provided)
	}
	return x
}

// anyRepo tells up to n packages that may be.
func (p *picks) anyRepo(n int) []api.Package {
	var l []api.Package
	for range p.pick(n + 1) {
		x := p.anyPackage(p.anyName())
		if !slices.ContainsFunc(l, func(y api.Package) bool { return isOne(x, y) }) {
			l = append(l, x)
		}
	}
	return l
}

// anyState tells a few entries that may be.
func (p *picks) anyState() []api.Entry {
	var l []api.Entry
	for _, name := range []string{"aa", "bb", "cc", "dd", "ee", "ff"} {
		if p.pick(8) == 0 {
			l = append(l, api.Entry{Pkg: p.anyPackage(name), Configured: p.pick(2) == 0, Hold: p.pick(2) == 0})
		}
	}
	return l
}

// anyNames tells few names, also such as no package has.
func (p *picks) anyNames() []string {
	var l []string
	for range p.pick(3) {
		l = append(l, one(p, []string{p.anyName(), p.anyName(), p.anyName(), "vv", ""}))
	}
	return l
}

// isOne tells whether p and q have one name, and versions that are the same.
func isOne(p, q api.Package) bool {
	return p.Name == q.Name && version.Same(p.Version, q.Version)
}

// slowlyAll tells whether l is all of repo and s, by the document's words.
func slowlyAll(l, repo []api.Package, s []api.Entry) bool {
	right := true
	for i := range l {
		right = right && (i == 0 || l[i-1].Name < l[i].Name || l[i-1].Name == l[i].Name && version.Compare(l[i-1].Version, l[i].Version) > 0)
	}
	count := 0
	for _, x := range s {
		right = right && has(l, x.Pkg)
		count++
	}
	for _, p := range repo {
		if !slices.ContainsFunc(s, func(x api.Entry) bool { return isOne(x.Pkg, p) }) {
			right = right && has(l, p)
			count++
		}
	}
	return right && count == len(l)
}

// has tells whether p is one of l.
func has(l []api.Package, p api.Package) bool {
	return slices.ContainsFunc(l, func(q api.Package) bool { return record.Same(p, q) })
}

// asks tells whether p asks for q in a clause of Pre-Depends, Depends or Recommends.
func asks(p, q api.Package) bool {
	for _, l := range [][]api.Clause{p.Recommends, p.Depends, p.PreDepends} {
		for _, c := range l {
			for _, a := range c {
				if index.Satisfies(q, a) {
					return true
				}
			}
		}
	}
	return false
}

// slowlyOf tells what of all is reached, by the document's words: over and over, till nothing more is.
func slowlyOf(all []api.Package, s []api.Entry, names []string) []api.Package {
	reached := make([]bool, len(all))
	for i, p := range all {
		_, ok := state.Find(s, p.Name)
		reached[i] = ok || slices.Contains(names, p.Name)
	}
	for more := true; more; {
		more = false
		for i, p := range all {
			for j, q := range all {
				if reached[i] && !reached[j] && (asks(p, q) || p.Name == q.Name) {
					reached[j], more = true, true
				}
			}
		}
	}
	var l []api.Package
	for i, p := range all {
		if reached[i] {
			l = append(l, p)
		}
	}
	return l
}

// P12.1, P12.2: All and Of are as the document's words say, of many packages, entries and names.
func TestAsWords(t *testing.T) {
	p := picks(121)
	count := map[string]int{}
	for range 5000 {
		repo, s, names := p.anyRepo(14), p.anyState(), p.anyNames()
		all, e := All(repo, s)
		if e != api.OK || !slowlyAll(all, repo, s) {
			t.Fatalf("All(%s, %s) = %s, %d", show(repo), show(s), show(all), e)
		}
		want := slowlyOf(all, s, names)
		got, e := Of(repo, s, names)
		if e != api.OK || len(got) != len(want) || len(got) > 0 && show(got) != show(want) {
			t.Fatalf("Of(%s, %s, %q) = %s, %d; want %s", show(repo), show(s), names, short(got), e, short(want))
		}
		if len(all) < len(repo)+len(s) {
			count["same"]++
		}
		if len(got) < len(all) && len(got) > len(s)+len(names) {
			count["some"]++
		}
	}
	if count["same"] < 500 || count["some"] < 500 {
		t.Errorf("only %v", count)
	}
}

// P12.1, P12.2 with R6: in which order packages and names are handed in makes no difference.
func TestAnyOrder(t *testing.T) {
	p := picks(122)
	for range 1000 {
		repo, s, names := p.anyRepo(14), p.anyState(), p.anyNames()
		all, _ := All(repo, s)
		l, _ := Of(repo, s, names)
		for i := range repo {
			j := p.pick(i + 1)
			repo[i], repo[j] = repo[j], repo[i]
		}
		slices.Reverse(names)
		wantAll(t, repo, s, all...)
		if got, e := Of(repo, s, names); e != api.OK || show(got) != show(l) {
			t.Fatalf("Of(%s, %s, %q) = %s, %d; want %s", show(repo), show(s), names, short(got), e, short(l))
		}
	}
}

// P12.3: what asks for something and is reached asks for nothing that is not reached.
func TestHangsOnNoOthers(t *testing.T) {
	p := picks(123)
	for range 2000 {
		repo, s, names := p.anyRepo(14), p.anyState(), p.anyNames()
		all, _ := All(repo, s)
		l, _ := Of(repo, s, names)
		for _, q := range all {
			if has(l, q) {
				continue
			}
			for _, x := range l {
				if x.Name == q.Name || asks(x, q) {
					t.Fatalf("%s reaches %s, which is none of %s", show(x), show(q), short(l))
				}
			}
		}
	}
}

// wholes tells all the healthy wholes of l.
func wholes(l []api.Package) [][]api.Package {
	var all [][]api.Package
	for chosen := range 1 << len(l) {
		var whole []api.Package
		for i, p := range l {
			if chosen>>i&1 > 0 {
				whole = append(whole, p)
			}
		}
		if state.Healthy(whole) {
			all = append(all, whole)
		}
	}
	return all
}

// P12.3: of a healthy whole what is reached is healthy without the rest.
func TestHealthyWithoutOthers(t *testing.T) {
	p := picks(124)
	count := 0
	for range 2000 {
		repo, s, names := p.anyRepo(7), p.anyState(), p.anyNames()
		if len(s) > 2 {
			continue
		}
		all, _ := All(repo, s)
		l, _ := Of(repo, s, names)
		for _, whole := range wholes(all) {
			kept := slices.DeleteFunc(slices.Clone(whole), func(q api.Package) bool { return !has(l, q) })
			if !state.Healthy(kept) {
				t.Fatalf("%s is healthy, but not %s", show(whole), show(kept))
			}
			if len(kept) > 0 && len(kept) < len(whole) {
				count++
			}
		}
	}
	if count < 500 {
		t.Errorf("only %d", count)
	}
}

// P12.3: with more names as many or more are reached.
func TestMoreNames(t *testing.T) {
	p := picks(125)
	count := 0
	for range 2000 {
		repo, s, names := p.anyRepo(14), p.anyState(), p.anyNames()
		fewer, _ := Of(repo, s, names)
		more, e := Of(repo, s, slices.Concat(p.anyNames(), names, p.anyNames()))
		if e != api.OK {
			t.Fatal(e)
		}
		for _, q := range fewer {
			if !has(more, q) {
				t.Fatalf("%s is reached, but with more names only %s", show(q), short(more))
			}
		}
		if len(fewer) < len(more) {
			count++
		}
	}
	if count < 200 {
		t.Errorf("only %d", count)
	}
}
