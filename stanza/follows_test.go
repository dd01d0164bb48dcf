package stanza

import (
	"regexp"
	"strings"
	"testing"

	"chandler/api"
)

// rows tells each row of up to n of these parts.
func rows(n int, parts ...string) []string {
	all, last := []string{""}, []string{""}
	for range n {
		var next []string
		for _, s := range last {
			for _, p := range parts {
				next = append(next, s+p)
			}
		}
		all, last = append(all, next...), next
	}
	return all
}

var (
	nothing  = regexp.MustCompile(`^[ \t]*$`)
	nameLine = regexp.MustCompile(`^([!-"$-,.-9;-~][!-9;-~]*):[ \t]*(.*?)[ \t]*$`)
	moreLine = regexp.MustCompile(`^[ \t](.*?)[ \t]*$`)
)

// slowParse tells stanzas by the words of the grammar, of a good text that is far from all limits.
func slowParse(s string) ([]api.Stanza, api.At) {
	var l []api.Stanza
	within := false
	for i, line := range strings.Split(s, "\n") {
		more, named := moreLine.FindStringSubmatch(line), nameLine.FindStringSubmatch(line)
		switch {
		case strings.HasPrefix(line, "#"):
		case nothing.MatchString(line):
			within = false
		case more != nil && within:
			if more[1] == "." {
				more[1] = ""
			}
			fields := l[len(l)-1].Fields
			f := &fields[len(fields)-1]
			f.Lines = append(f.Lines, more[1])
		case named == nil:
			return nil, api.At{Err: api.ErrForm, Line: i + 1}
		default:
			if !within {
				l = append(l, api.Stanza{Line: i + 1})
			}
			within = true
			x := &l[len(l)-1]
			for _, f := range x.Fields {
				if strings.EqualFold(f.Name, named[1]) {
					return nil, api.At{Err: api.ErrTwice, Line: i + 1}
				}
			}
			x.Fields = append(x.Fields, fieldOf(named[1], named[2]))
		}
	}
	return l, api.At{}
}

// wantBack fails, if Parse of the print of l is not l, but for Line, or the print of that is another one.
func wantBack(t *testing.T, l []api.Stanza) {
	t.Helper()
	b, e := Print(l)
	got, at := Parse(b)
	if e != api.OK || at != (api.At{}) || !sameStanzas(got, l) {
		t.Fatalf("%s, printed %q, %d, parsed %s, %v", show(l), b, e, show(got), at)
	}
	if again, e := Print(got); e != api.OK || string(again) != string(b) {
		t.Fatalf("%s, printed %q, parsed and printed %q, %d", show(l), b, again, e)
	}
}

// P5.2, P5.5: each row of the signs at which the grammar turns, against its words; and of what it is, the print, and back.
func TestRowsFollow(t *testing.T) {
	for _, parts := range [][]string{
		{"\n", " ", "a", ":", "#", "."}, {"\n", "\t", "A:", "a:", "-", " ."}, {"a: 1\n", "b:\n", " x\n", "\n", "#\n", "\t.\n", "b"},
	} {
		for _, s := range rows(6, parts...) {
			got, at := Parse([]byte(s))
			want, wantAt := slowParse(s)
			if at != wantAt || !sameStanzas(got, want) || !sameLines(got, want) {
				t.Fatalf("Parse(%q) = %s, %v; want %s, %v", s, show(got), at, show(want), wantAt)
			}
			wantBack(t, got)
		}
	}
}

// P5.3, P5.5: each field of short texts: it is printed just if a text of that field can be told; and back.
func TestFieldsFollow(t *testing.T) {
	for _, name := range []string{"a", "a:", "#", "a-", "-", ""} {
		for _, first := range rows(3, " ", ".", "x", ":", "#", "\n") {
			for _, more := range rows(3, " ", "\t", ".", "#", "\xff") {
				l := []api.Stanza{one(name, first, more), one("b", "")}
				s := name + ": " + first + "\n " + more + "\n"
				if more == "" {
					s = name + ": " + first + "\n .\n"
				}
				back, at := slowParse(s + "\nb:\n")
				may := at == (api.At{}) && sameStanzas(back, l) && !strings.Contains(more, "\xff")
				if _, e := Print(l); (e == api.OK) != may || e != api.OK && e != api.ErrForm {
					t.Fatalf("Print(%s): %d", show(l), e)
				}
				if may {
					wantBack(t, l)
				}
			}
		}
	}
}

// P5.5: stanzas as large as may be, and back.
func TestLargeFollow(t *testing.T) {
	wantBack(t, nil)
	wantBack(t, sized(api.MaxText))
	wantBack(t, []api.Stanza{stanzaOf(0, fieldsOf(api.MaxFields)...), one("a", make([]string, 10000)...), one("A", ".", "..", " .", "\t.", "#")})
	var l []api.Stanza
	for range api.MaxStanzas {
		l = append(l, stanzaOf(7, fieldsOf(api.MaxFields-20)...))
	}
	wantBack(t, l)
	name := strings.Repeat("n", api.MaxLine-1)
	wantBack(t, []api.Stanza{one(name, "", strings.Repeat("é", (api.MaxLine-1)/2)), one("b", strings.Repeat("x", api.MaxLine-3), strings.Repeat("y", api.MaxLine-1))})
}

// wantAlike fails, if the stanzas of s, whose lines stand as told, are not those of want, but for Line.
func wantAlike(t *testing.T, s string, want []api.Stanza) {
	t.Helper()
	got, at := Parse([]byte(s))
	if at != (api.At{}) || !sameStanzas(got, want) {
		t.Fatalf("Parse(%q) = %s, %v; want %s", s, show(got), at, show(want))
	}
}

// P5.5: remarks at any place make no difference but to Line, and none to which stanza a field is in.
func TestRemarksFollow(t *testing.T) {
	s := "a: 1\n 2\n .\nb:\n\nA: 3\n\t4\n\n \nc: 5\n"
	lines := strings.SplitAfter(s, "\n")
	want, _ := Parse([]byte(s))
	if len(want) != 3 {
		t.Fatal("not made as meant")
	}
	for _, remark := range []string{"#\n", "# a: 1\n", "#a:\n", "# \t\n", "#.\n#\n", "##\u00e9\n", "#" + strings.Repeat("x", api.MaxLine-1) + "\n"} {
		wantAlike(t, remark+strings.Join(lines, remark)+remark, want)
		for i := range lines {
			moved := strings.Join(lines[:i], "") + remark + strings.Join(lines[i:], "")
			wantAlike(t, moved, want)
			got, _ := Parse([]byte(moved))
			for k := range got {
				line := want[k].Line
				if line > i {
					line += strings.Count(remark, "\n")
				}
				if got[k].Line != line {
					t.Errorf("%q: the stanza %d at line %d", moved, k, got[k].Line)
				}
			}
		}
	}
}

// P5.5: how many lines without anything stand between, ahead and behind makes no difference but to Line.
func TestEmptyLinesFollow(t *testing.T) {
	parts := []string{"a: 1\n 2\n", "b:\nc: 3\n", "A: 4\n .\n"}
	want, _ := Parse([]byte(strings.Join(parts, "\n")))
	if len(want) != 3 {
		t.Fatal("not made as meant")
	}
	for _, between := range rows(3, "\n", " \n", "\t\n", "#\n") {
		if strings.Trim(between, "#\n") == "" && !strings.Contains("\n"+between, "\n\n") {
			continue
		}
		wantAlike(t, strings.Join(parts, between), want)
		wantAlike(t, between+strings.Join(parts, between)+between, want)
		wantAlike(t, between+strings.Join(parts, "\n")+between, want)
	}
}
