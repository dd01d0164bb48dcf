package stanza

import (
	"chandler/api"
	"chandler/text"
)

// printer is what has been printed so far; once it is too long, nothing is added any more.
type printer struct {
	bytes []byte
	long  bool
}

// field prints a field.
func (p *printer) field(f api.Field) {
	for i := range f.Lines {
		p.line(lineOf(f, i))
	}
}

// line prints a line.
func (p *printer) line(s string) {
	p.long = p.long || len(p.bytes)+len(s)+len(lineFeed) > api.MaxText
	if !p.long {
		p.bytes = append(append(p.bytes, s...), lineFeed...)
	}
}

// lineOf tells the line that the ith text of f is printed as.
func lineOf(f api.Field, i int) string {
	s := f.Lines[i]
	switch {
	case i > 0 && s == "":
		return space + emptyLine
	case i > 0:
		return space + s
	case s == "":
		return f.Name + colon
	}
	return f.Name + colon + space + s
}

// check tells why l can't be printed, but for its length in all.
func check(l []api.Stanza) api.Errno {
	if len(l) > api.MaxStanzas {
		return api.ErrMany
	}
	for _, s := range l {
		if len(s.Fields) == 0 || len(s.Fields) > api.MaxFields {
			return api.ErrMany
		}
		for i := range s.Fields {
			if e := checkField(s.Fields, i); e != api.OK {
				return e
			}
		}
	}
	return api.OK
}

// checkField tells why the ith of a stanza's fields can't be printed behind those ahead of it.
func checkField(fields []api.Field, i int) api.Errno {
	f := fields[i]
	switch {
	case !isName(f.Name) || !mayLines(f.Lines):
		return api.ErrForm
	case find(fields[:i], f.Name) >= 0:
		return api.ErrTwice
	}
	for n := range f.Lines {
		if len(lineOf(f, n)) > api.MaxLine {
			return api.ErrLong
		}
	}
	return api.OK
}

// mayLines tells whether a field may have these texts: good ones, that reading leaves as they are.
func mayLines(lines []string) bool {
	for i, s := range lines {
		read := further
		if i == 0 {
			read = first
		}
		if text.Good(s) >= 0 || read(s) != s {
			return false
		}
	}
	return len(lines) > 0
}
