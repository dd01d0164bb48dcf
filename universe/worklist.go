package universe

import (
	"slices"

	"chandler/api"
	"chandler/index"
)

// worklist is names of packages, each of which enters once, however often it is reached.
type worklist struct {
	packages *index.Index
	names    []string
	outside  map[string]struct{} // the names of packages that have not entered
}

// newWorklist tells one of the names of x's packages, into which none has entered.
func newWorklist(x *index.Index) *worklist {
	w := &worklist{packages: x, outside: map[string]struct{}{}}
	for _, name := range x.Names() {
		w.outside[name] = struct{}{}
	}
	return w
}

// enter puts these names at the end, but for those that no package has, or that have entered.
func (w *worklist) enter(names ...string) {
	for _, name := range names {
		if _, ok := w.outside[name]; ok {
			delete(w.outside, name)
			w.names = append(w.names, name)
		}
	}
}

// follow enters all that is reached from the names that have entered, and tells which names that makes, rising.
func (w *worklist) follow() []string {
	// The list grows on the way: what one name asks for stands behind it.
	for i := 0; i < len(w.names); i++ {
		for _, p := range named(w.packages, w.names[i]) {
			w.ask(p)
		}
	}
	return slices.Sorted(slices.Values(w.names))
}

// ask enters the names of all that meets an atom of what p asks for.
func (w *worklist) ask(p api.Package) {
	for _, c := range slices.Concat(p.PreDepends, p.Depends, p.Recommends) {
		for _, a := range c {
			for _, place := range w.packages.Meets(a) {
				q, _ := w.packages.At(place)
				w.enter(q.Name)
			}
		}
	}
}
