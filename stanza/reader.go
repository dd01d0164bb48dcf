package stanza

import (
	"strings"

	"chandler/api"
	"chandler/text"
)

// reader is what has been read so far; while open, the last stanza goes on, and has a field.
type reader struct {
	stanzas []api.Stanza
	open    bool
}

// take reads one more line, the one of that number.
func (r *reader) take(line string, number int) api.Errno {
	switch {
	case strings.HasPrefix(line, remark):
		return api.OK
	case text.Trim(line) == "":
		r.open = false
		return api.OK
	case strings.ContainsAny(line[:1], white):
		return r.goOn(line[1:])
	}
	return r.field(line, number)
}

// goOn reads a further text of the field ahead.
func (r *reader) goOn(s string) api.Errno {
	if !r.open {
		return api.ErrForm
	}
	fields := r.stanzas[len(r.stanzas)-1].Fields
	f := &fields[len(fields)-1]
	f.Lines = append(f.Lines, further(s))
	return api.OK
}

// field reads the first line of a field, and begins a stanza with it, where none is open.
func (r *reader) field(line string, number int) api.Errno {
	name, rest, found := strings.Cut(line, colon)
	if !found || !isName(name) {
		return api.ErrForm
	}
	if !r.open {
		if len(r.stanzas) == api.MaxStanzas {
			return api.ErrMany
		}
		r.stanzas = append(r.stanzas, api.Stanza{Line: number})
		r.open = true
	}
	s := &r.stanzas[len(r.stanzas)-1]
	if len(s.Fields) == api.MaxFields {
		return api.ErrMany
	}
	if find(s.Fields, name) >= 0 {
		return api.ErrTwice
	}
	s.Fields = append(s.Fields, api.Field{Name: name, Lines: []string{first(rest)}})
	return api.OK
}
