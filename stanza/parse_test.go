package stanza

import (
	"bytes"
	"fmt"
	"slices"
	"strconv"
	"strings"
	"testing"

	"chandler/api"
)

// stanzaOf tells a stanza that begins at that line.
func stanzaOf(line int, fields ...api.Field) api.Stanza {
	return api.Stanza{Line: line, Fields: fields}
}

// fieldOf tells a field.
func fieldOf(name string, lines ...string) api.Field {
	return api.Field{Name: name, Lines: lines}
}

// sameFields tells whether a and b are the same, name by name and text by text.
func sameFields(a, b []api.Field) bool {
	return slices.EqualFunc(a, b, func(x, y api.Field) bool {
		return x.Name == y.Name && slices.Equal(x.Lines, y.Lines)
	})
}

// sameStanzas tells whether a and b are the same, but for Line.
func sameStanzas(a, b []api.Stanza) bool {
	return slices.EqualFunc(a, b, func(x, y api.Stanza) bool { return sameFields(x.Fields, y.Fields) })
}

// sameLines tells whether the stanzas of a and b begin at the same lines.
func sameLines(a, b []api.Stanza) bool {
	return slices.EqualFunc(a, b, func(x, y api.Stanza) bool { return x.Line == y.Line })
}

// show tells stanzas in short: the line of each, and its fields.
func show(l []api.Stanza) string {
	s := ""
	for _, x := range l {
		s += fmt.Sprintf("%d: %q; ", x.Line, x.Fields)
	}
	return s
}

// wantParse fails, if the stanzas of s are not want.
func wantParse(t *testing.T, s string, want ...api.Stanza) {
	t.Helper()
	got, at := Parse([]byte(s))
	if at != (api.At{}) || !sameStanzas(got, want) || !sameLines(got, want) {
		t.Errorf("Parse(%.200q) = %.400s, %v; want %.400s", s, show(got), at, show(want))
	}
}

// wantField fails, if s is not one stanza of one field, at the first line.
func wantField(t *testing.T, s, name string, lines ...string) {
	t.Helper()
	wantParse(t, s, stanzaOf(1, fieldOf(name, lines...)))
}

// wantFault fails, if Parse(s) does not tell that error at that line, and nothing beside it.
func wantFault(t *testing.T, s string, e api.Errno, line int) {
	t.Helper()
	got, at := Parse([]byte(s))
	if want := (api.At{Err: e, Line: line}); at != want || len(got) > 0 {
		t.Errorf("Parse(%.200q): %d stanzas, %v; want %v", s, len(got), at, want)
	}
}

// manyFields tells the lines of n fields of unlike names.
func manyFields(n int) string {
	s := ""
	for i := range n {
		s += "f" + strconv.Itoa(i) + ": " + strconv.Itoa(i) + "\n"
	}
	return s
}

// P5.2: the document's examples, and texts as control files have them.
func TestParseKnown(t *testing.T) {
	wantParse(t, "Package: a\nDepends: b,\n\tc", stanzaOf(1, fieldOf("Package", "a"), fieldOf("Depends", "b,", "c")))
	wantFault(t, "a: 1\nA: 2", api.ErrTwice, 2)
	wantParse(t, "Package: aa\nVersion: 1\n\nPackage: bb\nVersion: 2\nDescription: short\n long\n .\n  more\n",
		stanzaOf(1, fieldOf("Package", "aa"), fieldOf("Version", "1")),
		stanzaOf(4, fieldOf("Package", "bb"), fieldOf("Version", "2"), fieldOf("Description", "short", "long", "", " more")))
	wantParse(t, "Name: Grüße, 世界\n \U0001f600\ufffd", stanzaOf(1, fieldOf("Name", "Grüße, 世界", "\U0001f600\ufffd")))
}

// P5.2: texts of nothing, of remarks alone, of empty lines and white space alone.
func TestParseNothing(t *testing.T) {
	for _, s := range []string{
		"", "\n", "\n\n\n", "#", "#\n", "# a: 1\n#b\n", "##", "#\tx\n\n# y", " ", "\t", " \n", "\t\n", " \t \n\t\t\n", "\n#\n \n#a:\n\t",
		strings.Repeat(" ", api.MaxLine), "#" + strings.Repeat("x", api.MaxLine-1),
		strings.Repeat("\n", api.MaxText), strings.Repeat("#\n", api.MaxText/2),
	} {
		wantParse(t, s)
	}
	wantParse(t, "")
	if l, at := Parse(nil); len(l) > 0 || at != (api.At{}) {
		t.Errorf("Parse(nil) = %v, %v", l, at)
	}
}

// P5.2: remarks ahead of a field, between its lines, between fields and stanzas: as if they were not there.
func TestParseRemarks(t *testing.T) {
	wantParse(t, "#\na: 1\n#x\n 2\n#\n#:\n .\n# \n 3\n#y: 1\nb: 1\n#", stanzaOf(2, fieldOf("a", "1", "2", "", "3"), fieldOf("b", "1")))
	wantParse(t, "a: 1\n#\n\n#\nb: 1\n\n#\n\n# \n#\nc: 1",
		stanzaOf(1, fieldOf("a", "1")), stanzaOf(5, fieldOf("b", "1")), stanzaOf(11, fieldOf("c", "1")))
	// A remark alone ends no stanza; behind white space it is none.
	wantParse(t, "a: 1\n#\nb: 1", stanzaOf(1, fieldOf("a", "1"), fieldOf("b", "1")))
	wantField(t, "a: 1\n #\n\t# x", "a", "1", "#", "# x")
	wantField(t, "a: #1\n", "a", "#1")
	wantField(t, "a#:1\n", "a#", "1")
	wantFault(t, "#\n #\n", api.ErrForm, 2)
}

// P5.2: a line of white space alone ends a stanza, of whatever white space; many end no more.
func TestParseEnds(t *testing.T) {
	for _, end := range []string{"", " ", "\t", "  ", "\t\t", " \t ", strings.Repeat(" ", api.MaxLine)} {
		wantParse(t, "a: 1\n"+end+"\na: 2", stanzaOf(1, fieldOf("a", "1")), stanzaOf(3, fieldOf("a", "2")))
		wantParse(t, end+"\na: 1\n"+end+"\n"+end+"\n\n"+end+"\nb: 2\n"+end+"\n"+end,
			stanzaOf(2, fieldOf("a", "1")), stanzaOf(7, fieldOf("b", "2")))
		wantFault(t, "a: 1\n"+end+"\n 2", api.ErrForm, 3)
		wantFault(t, "a: 1\n"+end+"\n#\n\t.", api.ErrForm, 4)
	}
	// Other signs that show nothing are no white space.
	for _, none := range []string{"\u00a0", "\u0085", "\u2003", "\u3000", "\ufeff"} {
		wantFault(t, "a: 1\n"+none+"\nb: 2", api.ErrForm, 2)
		wantFault(t, "a: 1\n"+none+"2", api.ErrForm, 2)
		wantField(t, "a:"+none+"1"+none+"\n "+none, "a", none+"1"+none, none)
	}
}

// P5.2: names of one sign: each that there is, as the only one, the first, a midmost and the last one.
func TestParseNames(t *testing.T) {
	for r := rune(1); r < 0x3100; r++ {
		if r == '\n' || r == '\t' || r == ' ' || r == '#' {
			continue
		}
		c := string(r)
		if r < ' ' || r == 127 {
			wantFault(t, c+":", api.ErrForm, 1)
			wantFault(t, "a"+c+"b: 1", api.ErrForm, 1)
			continue
		}
		further := r >= 0x21 && r <= 0x7e && r != ':'
		if further && r != '-' {
			wantField(t, c+":", c, "")
			wantField(t, c+"b: 1", c+"b", "1")
		} else {
			wantFault(t, c+":", api.ErrForm, 1)
			wantFault(t, c+"b: 1", api.ErrForm, 1)
		}
		if further {
			wantField(t, "a"+c+"b: 1", "a"+c+"b", "1")
			wantField(t, "ab"+c+":1", "ab"+c, "1")
		} else if r != ':' {
			wantFault(t, "a"+c+"b: 1", api.ErrForm, 1)
			wantFault(t, "ab"+c+":1", api.ErrForm, 1)
		}
	}
}

// P5.2: names in either case are told as they are written; those that may not be first; white space ahead of the colon.
func TestParseNamesKnown(t *testing.T) {
	wantField(t, "PACKAGE: a", "PACKAGE", "a")
	wantField(t, "pRe-dEPENDS: a", "pRe-dEPENDS", "a")
	wantField(t, "a-#: 1", "a-#", "1")
	wantField(t, "!\"$%&'()*+,./;<=>?@[\\]^_`{|}~#-: 1", "!\"$%&'()*+,./;<=>?@[\\]^_`{|}~#-", "1")
	long := strings.Repeat("n", api.MaxLine-1)
	wantField(t, long+":", long, "")
	for _, s := range []string{
		"-:", "-a: 1", "--a: 1", "-", "a : 1", "a\t: 1", "a b: 1", "a\tb: 1", "é: 1", "aé: 1", "世: 1", "a\u00a0: 1", "\ufffd: 1", "a\ufffd: 1",
	} {
		wantFault(t, s, api.ErrForm, 1)
		wantFault(t, "a: 1\n"+s, api.ErrForm, 2)
		wantFault(t, "a: 1\n\n#\n"+s+"\n", api.ErrForm, 4)
	}
}

// P5.2: lines without a colon, and such as begin with one.
func TestParseNoName(t *testing.T) {
	for _, s := range []string{"a", "ab", "Package", "Package a", ":", "::", ":a", ": a", ":a: b", " \n:", strings.Repeat("n", api.MaxLine), "."} {
		line := 1 + strings.Count(s, "\n")
		wantFault(t, s, api.ErrForm, line)
		wantFault(t, s+"\n", api.ErrForm, line)
		wantFault(t, "b: 1\n"+s+"\nc: 1", api.ErrForm, 1+line)
		wantFault(t, "b: 1\n\n\n"+s, api.ErrForm, 3+line)
	}
	wantField(t, "a::", "a", ":")
	wantField(t, "a:b:c", "a", "b:c")
	wantField(t, "a: :b", "a", ":b")
	wantField(t, "a:\n :\n b:", "a", "", ":", "b:")
}

// P5.2: lines that go on where no field stands ahead of them in the stanza; a remark between does not matter.
func TestParseGoesOn(t *testing.T) {
	for _, s := range []string{" x", "\tx", "  x", " .", "\t#", " a: 1"} {
		wantFault(t, s, api.ErrForm, 1)
		wantFault(t, s+"\na: 1\n", api.ErrForm, 1)
		wantFault(t, "\n\n"+s, api.ErrForm, 3)
		wantFault(t, "# a: 1\n"+s, api.ErrForm, 2)
		wantFault(t, "a: 1\n\n"+s, api.ErrForm, 3)
		wantFault(t, "a: 1\n 2\n\t\n#\n"+s, api.ErrForm, 5)
		wantFault(t, "a: 1\n#\n\n"+s, api.ErrForm, 4)
	}
	wantField(t, "a: 1\n a: 2", "a", "1", "a: 2")
	wantField(t, "a: 1\n# b:\n 2", "a", "1", "2")
	wantParse(t, "a: 1\nb: 2\n 3\nc:\n\t4", stanzaOf(1, fieldOf("a", "1"), fieldOf("b", "2", "3"), fieldOf("c", "", "4")))
}

// P5.2: a further text that is just a dot is an empty line, one of more is not; a first one stays a dot.
func TestParseDots(t *testing.T) {
	for _, dot := range []string{" .", "\t.", " . ", "\t. \t", " .\t"} {
		wantField(t, "a: 1\n"+dot+"\n 2", "a", "1", "", "2")
		wantField(t, "a:\n"+dot, "a", "", "")
		wantField(t, "a:\n"+dot+"\n"+dot+"\n", "a", "", "", "")
	}
	for _, text := range []string{" .", "\t.", "..", ". .", ".a", "  .", ",", "\u3002"} {
		wantField(t, "a:\n "+text, "a", "", text)
	}
	for _, s := range []string{"a:.", "a: .", "a:\t. \t", "a:  ."} {
		wantField(t, s, "a", ".")
	}
}

// P5.2: texts with white space before and behind them: the first loses both, a further one what stands behind, and one sign.
func TestParseTrims(t *testing.T) {
	for _, s := range []string{"a:x y", "a: x y", "a:\tx y", "a:  x y", "a: \t x y", "a:x y ", "a:x y\t", "a:\t\tx y \t ", "a: x y   "} {
		wantField(t, s, "a", "x y")
		wantField(t, s+"\n", "a", "x y")
	}
	for _, s := range []string{"a:", "a: ", "a:\t", "a: \t "} {
		wantField(t, s, "a", "")
	}
	for _, text := range []string{"x", " x", "\tx", "  x", "\t x", "x y", " x\ty", "\u00a0x\u00a0"} {
		for _, behind := range []string{"", " ", "\t", " \t "} {
			wantField(t, "a: 1\n "+text+behind, "a", "1", text)
			wantField(t, "a: 1\n\t"+text+behind+"\n", "a", "1", text)
		}
	}
}

// P5.2: MaxFields fields, and one more, in the first stanza and in a later one; further lines and remarks are none.
func TestParseManyFields(t *testing.T) {
	full := manyFields(api.MaxFields)
	got, at := Parse([]byte(full + "\n" + full))
	if at != (api.At{}) || len(got) != 2 || len(got[0].Fields) != api.MaxFields || !sameFields(got[0].Fields, got[1].Fields) {
		t.Fatalf("%d stanzas, %v", len(got), at)
	}
	for i, f := range got[0].Fields {
		if n := strconv.Itoa(i); f.Name != "f"+n || !slices.Equal(f.Lines, []string{n}) {
			t.Errorf("the field %d is %q", i, f)
		}
	}
	if got, at = Parse([]byte(full + " on\n# x: 1\n .\n")); at != (api.At{}) || len(got[0].Fields[api.MaxFields-1].Lines) != 3 {
		t.Errorf("full, and further lines: %v", at)
	}
	wantFault(t, full+"x:", api.ErrMany, api.MaxFields+1)
	wantFault(t, full+" on\n#\nx:\ny:\n", api.ErrMany, api.MaxFields+3)
	wantFault(t, "a:\n\n"+full+"x:", api.ErrMany, api.MaxFields+3)
	wantFault(t, full+"\n"+full+"x: 1\n", api.ErrMany, 2*api.MaxFields+2)
}

// P5.2: MaxStanzas stanzas, and one more; lines without anything and remarks are none.
func TestParseManyStanzas(t *testing.T) {
	full := strings.Repeat("a: 1\n\n", api.MaxStanzas)
	for _, s := range []string{full, full + "\n#\n \n# x\n", full[:len(full)-2], full[:len(full)-1] + "b: 2\n c"} {
		got, at := Parse([]byte(s))
		if at != (api.At{}) || len(got) != api.MaxStanzas || got[api.MaxStanzas-1].Line != 2*api.MaxStanzas-1 {
			t.Errorf("%d stanzas, %v", len(got), at)
		}
	}
	wantFault(t, full+"a: 1", api.ErrMany, 2*api.MaxStanzas+1)
	wantFault(t, full+"\n#\n\nb: 1\n\nc: 1\n", api.ErrMany, 2*api.MaxStanzas+4)
	wantFault(t, strings.Repeat("a:\n\n", api.MaxStanzas+50), api.ErrMany, 2*api.MaxStanzas+1)
}

// P5.2: a field's name twice in a stanza, in whatever case, next to one another or not; in two stanzas it may stand.
func TestParseTwice(t *testing.T) {
	for _, name := range []string{"depends", "DEPENDS", "Depends", "dePendS"} {
		wantFault(t, "Depends: 1\n"+name+": 2", api.ErrTwice, 2)
		wantFault(t, "x: 1\nDepends: 1\n 2\n#\ny: 1\n"+name+":\n", api.ErrTwice, 6)
		wantFault(t, name+": 1\n\n"+name+": 1\nz: 1\nDepends: 1\nb", api.ErrTwice, 5)
		wantParse(t, "Depends: 1\n\n"+name+": 2", stanzaOf(1, fieldOf("Depends", "1")), stanzaOf(3, fieldOf(name, "2")))
	}
	wantParse(t, "[: 1\n{: 2\n@: 3\n`: 4\nz: 5\nZ1: 6\n_: 7\n\x7e: 8",
		stanzaOf(1, fieldOf("[", "1"), fieldOf("{", "2"), fieldOf("@", "3"), fieldOf("`", "4"), fieldOf("z", "5"), fieldOf("Z1", "6"), fieldOf("_", "7"), fieldOf("~", "8")))
	wantParse(t, "a:\nab:\nabc:\nb:", stanzaOf(1, fieldOf("a", ""), fieldOf("ab", ""), fieldOf("abc", ""), fieldOf("b", "")))
	wantFault(t, manyFields(api.MaxFields-1)+"F0:", api.ErrTwice, api.MaxFields)
}

// P5.2: two faults: those of Lines ahead of all others; then the first line's; of one line first the form, then too many, then twice.
func TestParseTwoFaults(t *testing.T) {
	tooLong := "#" + strings.Repeat("x", api.MaxLine)
	wantFault(t, "ab\n\xff", api.ErrForm, 2)
	wantFault(t, "a:\na:\n\n#\x00\n", api.ErrForm, 4)
	wantFault(t, "a:\nA:\n"+tooLong, api.ErrLong, 3)
	wantFault(t, " x\n"+strings.Repeat("\n", api.MaxText), api.ErrLong, 0)
	wantFault(t, "a:\nA:\n x\nab", api.ErrTwice, 2)
	wantFault(t, "a:\nab\nA:\n", api.ErrForm, 2)
	wantFault(t, " x\na:\na:\n", api.ErrForm, 1)
	wantFault(t, "a:\n\n x\nab", api.ErrForm, 3)
	full := manyFields(api.MaxFields)
	wantFault(t, full+"f0:", api.ErrMany, api.MaxFields+1)
	wantFault(t, full+"x", api.ErrForm, api.MaxFields+1)
	wantFault(t, full+":", api.ErrForm, api.MaxFields+1)
	wantFault(t, full+"x\nf0:\ny:", api.ErrForm, api.MaxFields+1)
	wantFault(t, full+"x:\nf0:\ny", api.ErrMany, api.MaxFields+1)
	most := strings.Repeat("a:\n\n", api.MaxStanzas)
	wantFault(t, most+" x\nb:", api.ErrForm, 2*api.MaxStanzas+1)
	wantFault(t, most+"x\nb:", api.ErrForm, 2*api.MaxStanzas+1)
	wantFault(t, most+"b:\nb:\nx", api.ErrMany, 2*api.MaxStanzas+1)
	wantFault(t, most[:len(most)-1]+"A:\n\nb:", api.ErrTwice, 2*api.MaxStanzas)
}

// P5.2: lines of MaxLine bytes, of one more; a text of MaxText bytes, of one more; wrong bytes anywhere, in remarks too.
func TestParseLinesErrors(t *testing.T) {
	for _, ahead := range []string{"a:", "a: 1\n ", "#"} {
		last := ahead[strings.LastIndexByte(ahead, '\n')+1:]
		full := ahead + strings.Repeat("x", api.MaxLine-len(last))
		if _, at := Parse([]byte(full)); at != (api.At{}) {
			t.Errorf("a line of MaxLine bytes behind %q: %v", ahead, at)
		}
		wantFault(t, full+"x", api.ErrLong, 1+strings.Count(ahead, "\n"))
		wantFault(t, full+" \n", api.ErrLong, 1+strings.Count(ahead, "\n"))
		for _, bad := range []string{"\x00", "\r", "\x1f", "\x7f", "\x80", "\xff", "\xc0\x80", "\xe2\x82", "\xed\xa0\x80"} {
			wantFault(t, ahead+bad, api.ErrForm, 1+strings.Count(ahead, "\n"))
			wantFault(t, "\n\n"+ahead+"x"+bad+"\n", api.ErrForm, 3+strings.Count(ahead, "\n"))
		}
	}
	wantFault(t, "a: 1\r\n\r\nb: 2\r\n", api.ErrForm, 1)
	full := "a:\n" + strings.Repeat(" x\n", api.MaxText/3-1)
	full += strings.Repeat("\n", api.MaxText-len(full))
	wantField(t, full, "a", append([]string{""}, slices.Repeat([]string{"x"}, api.MaxText/3-1)...)...)
	wantFault(t, full+"\n", api.ErrLong, 0)
	wantFault(t, full+"\xff", api.ErrLong, 0)
}

// P5.2 with R2: the bytes are neither changed nor kept, what lies behind their length does not count, no two lists share memory.
func TestParseOwn(t *testing.T) {
	b := []byte("a: 1\n 2\nb: 3\n\nc: 4\n\xff :")
	before := bytes.Clone(b)
	piece := b[:len(b)-3]
	got, at := Parse(piece)
	again, _ := Parse(piece)
	if at != (api.At{}) || !bytes.Equal(b, before) {
		t.Fatalf("%v, %q", at, b)
	}
	clear(b)
	want := []api.Stanza{stanzaOf(1, fieldOf("a", "1", "2"), fieldOf("b", "3")), stanzaOf(5, fieldOf("c", "4"))}
	for i := range got {
		_ = append(got[i].Fields, fieldOf("more"))
		for k := range got[i].Fields {
			_ = append(got[i].Fields[k].Lines, "more", "and more")
		}
	}
	if !sameStanzas(again, want) || !sameStanzas(got, want) {
		t.Errorf("%s, %s", show(got), show(again))
	}
	got[0].Fields[0].Lines[0] = "changed"
	got[0].Fields[1].Name = "changed"
	if !sameStanzas(again, want) {
		t.Errorf("an answer that was changed is seen in another one: %s", show(again))
	}
}
