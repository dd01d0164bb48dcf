package value

import (
	"slices"
	"strconv"

	"chandler/api"
	"chandler/relation"
	"chandler/stanza"
	"chandler/text"
	"chandler/version"
)

// How a yes is written.
const (
	writtenYes = "yes"
	writtenNo  = "no"
)

// Read tells the value of the field of that name that has that text.
func Read(name, text string) (Value, api.Errno) {
	switch {
	case isAny(name, "Package"):
		return readName(text)
	case isAny(name, "Version"):
		return readVersion(text)
	case isAny(name, "Pre-Depends", "Depends", "Recommends"):
		return readClauses(text)
	case isAny(name, "Conflicts", "Breaks"):
		return readAtoms(text)
	case isAny(name, "Provides"):
		return readProvides(text)
	case isAny(name, "Essential", "Hold", "Configured"):
		return readYes(text)
	case isAny(name, "Priority"):
		return readCount(text)
	}
	return OfText(text), api.OK
}

// Write tells how v is written, if it is.
func Write(v Value) (string, bool) { return v.write() }

func (v Value) write() (string, bool) {
	switch x := v.within.(type) {
	case string:
		return x, true
	case int:
		return strconv.Itoa(x), true
	case bool:
		return writeYes(x), true
	case []api.Clause:
		return written(relation.Text(x), len(x))
	case []api.Atom:
		return written(relation.Atoms(x), len(x))
	case []api.Provide:
		return written(relation.Provides(x), len(x))
	}
	return "", false
}

// isAny tells whether name is any of these fields' names.
func isAny(name string, fields ...string) bool {
	return slices.ContainsFunc(fields, func(field string) bool { return stanza.Same(field, name) })
}

func readName(s string) (Value, api.Errno) {
	if !text.Name(s) {
		return Value{}, api.ErrForm
	}
	return OfText(s), api.OK
}

func readVersion(s string) (Value, api.Errno) {
	_, _, _, e := version.Parse(s)
	return unless(e, OfText(s))
}

func readClauses(s string) (Value, api.Errno) {
	l, e := relation.Parse(s)
	return unless(e, OfClauses(l))
}

func readAtoms(s string) (Value, api.Errno) {
	l, e := relation.ParseAtoms(s)
	return unless(e, OfAtoms(l))
}

func readProvides(s string) (Value, api.Errno) {
	l, e := relation.ParseProvides(s)
	return unless(e, OfProvides(l))
}

func readYes(s string) (Value, api.Errno) {
	if s != writtenYes && s != writtenNo {
		return Value{}, api.ErrForm
	}
	return OfYes(s == writtenYes), api.OK
}

func readCount(s string) (Value, api.Errno) {
	n, ok := text.Number(s)
	if !ok {
		return Value{}, api.ErrForm
	}
	return OfCount(n), api.OK
}

// unless tells v; beside an error it tells none, whatever was read ahead of it.
func unless(e api.Errno, v Value) (Value, api.Errno) {
	if e != api.OK {
		return Value{}, e
	}
	return v, api.OK
}

func writeYes(b bool) string {
	if b {
		return writtenYes
	}
	return writtenNo
}

// written tells s, the text of a list of that many items: empty, it is that of no items, but says of some that they have none.
func written(s string, items int) (string, bool) {
	return s, s != "" || items == 0
}
