package relation

import (
	"strings"

	"chandler/api"
	"chandler/version"
)

const (
	clauseEnd  = ","
	atomEnd    = "|"
	bracket    = "("
	bracketEnd = ")"
	marks      = clauseEnd + atomEnd + bracket + bracketEnd
)

// reader is what of a text has not been read yet; white space ahead of it has been.
type reader struct {
	rest string
}

func newReader(s string) *reader {
	return &reader{rest: skip(s)}
}

// done tells whether all has been read.
func (r *reader) done() bool {
	return r.rest == ""
}

// take reads mark, and white space behind it; false, and nothing, if it does not come next.
func (r *reader) take(mark string) bool {
	rest, found := strings.CutPrefix(r.rest, mark)
	if found {
		r.rest = skip(rest)
	}
	return found
}

// run reads as long as signs are of that kind, and white space behind them.
func (r *reader) run(isKind func(rune) bool) string {
	end := span(r.rest, isKind)
	s := r.rest[:end]
	r.rest = skip(r.rest[end:])
	return s
}

// parse reads all of s as items with a comma between.
func parse[T any](s string, read func(*reader) (T, api.Errno)) ([]T, api.Errno) {
	r := newReader(s)
	if r.done() {
		return nil, api.OK
	}
	l, e := readList(r, api.MaxClauses, clauseEnd, read)
	if e == api.OK && !r.done() {
		return nil, api.ErrForm
	}
	return l, e
}

// readList reads at most that many items with the mark between.
func readList[T any](r *reader, most int, between string, read func(*reader) (T, api.Errno)) ([]T, api.Errno) {
	var l []T
	for {
		// The mark alone says that there is one more: what stands behind it is not looked at, if that is too many.
		if len(l) == most {
			return nil, api.ErrMany
		}
		x, e := read(r)
		if e != api.OK {
			return nil, e
		}
		l = append(l, x)
		if !r.take(between) {
			return l, api.OK
		}
	}
}

// readClause reads atoms of which one has to be met.
func readClause(r *reader) (api.Clause, api.Errno) {
	return readList(r, api.MaxAtoms, atomEnd, readAtom)
}

// readAtom reads a name, and what may stand in brackets behind it.
func readAtom(r *reader) (api.Atom, api.Errno) {
	a := api.Atom{Name: r.run(isWord)}
	if r.take(bracket) {
		a.Rel = version.Rel(r.run(isSign))
		a.Version = r.run(isWord)
		// Brackets without a sign are none, though such an atom might be one without brackets.
		if a.Rel == api.RAny || !r.take(bracketEnd) {
			return api.Atom{}, api.ErrForm
		}
	}
	if !MayAtom(a) {
		return api.Atom{}, api.ErrForm
	}
	return a, api.OK
}

// readProvide reads an atom that asks for just one version, or for none.
func readProvide(r *reader) (api.Provide, api.Errno) {
	a, e := readAtom(r)
	if e != api.OK || a.Rel != api.RAny && a.Rel != api.REq {
		return api.Provide{}, api.ErrForm
	}
	return api.Provide{Name: a.Name, Version: a.Version}, api.OK
}

// skip tells what of s is behind the white space at its beginning.
func skip(s string) string {
	return s[span(s, isWhite):]
}

// span tells how many bytes at the beginning of s are of signs of that kind.
func span(s string, isKind func(rune) bool) int {
	for i, r := range s {
		if !isKind(r) {
			return i
		}
	}
	return len(s)
}

func isWhite(r rune) bool { return r == ' ' || r == '\t' }
func isSign(r rune) bool  { return r == '<' || r == '=' || r == '>' }

// isWord tells whether r may stand in a name or a version, as far as the grammar goes: what these are, others say.
func isWord(r rune) bool {
	return !isWhite(r) && !isSign(r) && !strings.ContainsRune(marks, r)
}
