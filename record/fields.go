package record

import (
	"math"

	"chandler/api"
	"chandler/stanza"
	"chandler/value"
)

// The places of the fields of packages and entries, in the order in which they are printed.
const (
	atPackage = iota
	atVersion
	atEssential
	atPreDepends
	atDepends
	atRecommends
	atConflicts
	atBreaks
	atProvides
	atState
	atHold
	places
)

// What State may be.
const (
	unpacked   = "unpacked"
	configured = "configured"
)

// noKind is the kind of a value that has nothing.
const noKind = "none"

var names = [places]string{
	atPackage:    "Package",
	atVersion:    "Version",
	atEssential:  "Essential",
	atPreDepends: "Pre-Depends",
	atDepends:    "Depends",
	atRecommends: "Recommends",
	atConflicts:  "Conflicts",
	atBreaks:     "Breaks",
	atProvides:   "Provides",
	atState:      "State",
	atHold:       "Hold",
}

// values is what the fields have, by their places; the value of a field that is not there has nothing.
type values [places]value.Value

// read tells what the fields of s have, each of them read by that call; those at some places must be there.
func read(s api.Stanza, field func(name, text string) (value.Value, api.Errno), must ...int) (values, api.At) {
	var v values
	line := s.Line
	for _, f := range s.Fields {
		x, e := field(f.Name, stanza.Fold(f.Lines))
		if e != api.OK {
			return values{}, api.At{Err: e, Line: line}
		}
		v.keep(f.Name, x)
		line = further(line, len(f.Lines))
	}
	for _, place := range must {
		if !v.has(place) {
			return values{}, api.At{Err: api.ErrLack, Line: s.Line}
		}
	}
	return v, api.At{}
}

// readOfEntry reads a field as value.Read does, but State, which is any text there, as one of its two words.
func readOfEntry(name, text string) (value.Value, api.Errno) {
	if stanza.Same(name, names[atState]) && text != unpacked && text != configured {
		return value.Value{}, api.ErrForm
	}
	return value.Read(name, text)
}

// keep puts x to the place of the field of that name, if there is one, and nothing stands there.
func (v *values) keep(name string, x value.Value) {
	for place, known := range names {
		if stanza.Same(name, known) && !v.has(place) {
			v[place] = x
		}
	}
}

// has tells whether the field of that place is there.
func (v values) has(place int) bool {
	return value.Kind(v[place]) != noKind
}

// pkg tells the package that has these fields.
func (v values) pkg() api.Package {
	var p api.Package
	p.Name, _ = value.Text(v[atPackage])
	p.Version, _ = value.Text(v[atVersion])
	p.Essential, _ = value.Yes(v[atEssential])
	p.PreDepends, _ = value.Clauses(v[atPreDepends])
	p.Depends, _ = value.Clauses(v[atDepends])
	p.Recommends, _ = value.Clauses(v[atRecommends])
	p.Conflicts, _ = value.Atoms(v[atConflicts])
	p.Breaks, _ = value.Atoms(v[atBreaks])
	p.Provides, _ = value.Provides(v[atProvides])
	return p
}

// entry tells the entry that has these fields.
func (v values) entry() api.Entry {
	x := api.Entry{Pkg: v.pkg()}
	state, _ := value.Text(v[atState])
	x.Configured = state == configured
	x.Hold, _ = value.Yes(v[atHold])
	return x
}

// ofPackage tells what the fields of a package have.
func ofPackage(p api.Package) values {
	return values{
		atPackage:    value.OfText(p.Name),
		atVersion:    value.OfText(p.Version),
		atEssential:  ofYes(p.Essential),
		atPreDepends: value.OfClauses(p.PreDepends),
		atDepends:    value.OfClauses(p.Depends),
		atRecommends: value.OfClauses(p.Recommends),
		atConflicts:  value.OfAtoms(p.Conflicts),
		atBreaks:     value.OfAtoms(p.Breaks),
		atProvides:   value.OfProvides(p.Provides),
	}
}

// ofEntry tells what the fields of an entry have.
func ofEntry(x api.Entry) values {
	v := ofPackage(x.Pkg)
	v[atState] = value.OfText(unpacked)
	if x.Configured {
		v[atState] = value.OfText(configured)
	}
	v[atHold] = ofYes(x.Hold)
	return v
}

// ofYes tells a yes; a no is left out.
func ofYes(b bool) value.Value {
	if !b {
		return value.Value{}
	}
	return value.OfYes(true)
}

// stanza tells the fields that have a text, each of one line.
func (v values) stanza() api.Stanza {
	var s api.Stanza
	for place, name := range names {
		if text, _ := value.Write(v[place]); text != "" {
			s.Fields = append(s.Fields, api.Field{Name: name, Lines: []string{text}})
		}
	}
	return s
}

// further tells the line that many lines behind that one, as far as numbers go.
func further(line, lines int) int {
	if line > math.MaxInt-lines {
		return math.MaxInt
	}
	return line + lines
}
