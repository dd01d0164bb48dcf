package relation

import (
	"strings"

	"chandler/api"
)

// write tells the texts of l with that between them; nothing, if one has none, or there are more than so many.
func write[T any](l []T, most int, between string, one func(T) string) string {
	if len(l) > most {
		return ""
	}
	var parts []string
	for _, x := range l {
		part := one(x)
		if part == "" {
			return ""
		}
		parts = append(parts, part)
	}
	return strings.Join(parts, between)
}

func writeClause(c api.Clause) string {
	return write(c, api.MaxAtoms, " "+atomEnd+" ", Atom)
}

func writeProvide(p api.Provide) string {
	a := api.Atom{Name: p.Name, Version: p.Version}
	if p.Version != "" {
		a.Rel = api.REq
	}
	return Atom(a)
}
