package stanza

import (
	"slices"
	"strconv"
	"strings"
	"testing"

	"chandler/api"
)

// wantPrint fails, if the print of these stanzas is not want.
func wantPrint(t *testing.T, want string, l ...api.Stanza) {
	t.Helper()
	got, e := Print(l)
	if e != api.OK || string(got) != want {
		t.Errorf("Print(%.400s) = %.400q, %d; want %.400q", show(l), got, e, want)
	}
}

// wantRefused fails, if Print does not tell that error of these stanzas, and nothing beside it.
func wantRefused(t *testing.T, want api.Errno, l ...api.Stanza) {
	t.Helper()
	got, e := Print(l)
	if e != want || len(got) > 0 {
		t.Errorf("Print(%.400s): %d bytes, %d; want %d", show(l), len(got), e, want)
	}
}

// one tells a stanza of one field.
func one(name string, lines ...string) api.Stanza {
	return stanzaOf(0, fieldOf(name, lines...))
}

// fieldsOf tells n fields of unlike names.
func fieldsOf(n int) []api.Field {
	var fields []api.Field
	for i := range n {
		fields = append(fields, fieldOf("f"+strconv.Itoa(i), strconv.Itoa(i)))
	}
	return fields
}

// sized tells stanzas of one field each, whose print has just n bytes (more than a thousand).
func sized(n int) []api.Stanza {
	line := one("a", strings.Repeat("x", 496))
	var l []api.Stanza
	for ; n > 1500; n -= 501 {
		l = append(l, line)
	}
	return append(l, one("b", strings.Repeat("y", 500), strings.Repeat("z", n-506)))
}

// P5.3: what is printed: the first text behind a space, if there is one, further ones behind a space, a dot for an empty line.
func TestPrintKnown(t *testing.T) {
	wantPrint(t, "")
	wantPrint(t, "a:\n", one("a", ""))
	wantPrint(t, "a: x\n", one("a", "x"))
	wantPrint(t, "Package: aa\nDepends: bb,\n cc\n", stanzaOf(0, fieldOf("Package", "aa"), fieldOf("Depends", "bb,", "cc")))
	wantPrint(t, "a:\n .\n x\n .\n .\n", one("a", "", "", "x", "", ""))
	wantPrint(t, "a: .\n ..\n  .\n", one("a", ".", "..", " ."))
	wantPrint(t, "a: x y\n  x\ty\n \tx\n #\n b: c\n", one("a", "x y", " x\ty", "\tx", "#", "b: c"))
	wantPrint(t, "a: #x\nb: :\nC: -\n", stanzaOf(0, fieldOf("a", "#x"), fieldOf("b", ":"), fieldOf("C", "-")))
	wantPrint(t, "a: 1\n\nA: 2\nb:\n .\n\na: 3\n", one("a", "1"), stanzaOf(0, fieldOf("A", "2"), fieldOf("b", "", "")), one("a", "3"))
	wantPrint(t, "a: Grüße, 世界\n \U0001f600\ufffd\u0085\n", one("a", "Grüße, 世界", "\U0001f600\ufffd\u0085"))
	// White space is the space and the tab alone.
	wantPrint(t, "a: \u00a0x\u2003\n x\u00a0\n", one("a", "\u00a0x\u2003", "x\u00a0"))
}

// P5.3: the line at which a stanza is said to begin makes no difference.
func TestPrintLine(t *testing.T) {
	for _, line := range []int{0, 1, 7, -1, 1 << 62, -1 << 63} {
		wantPrint(t, "a: 1\n\nb: 2\n", stanzaOf(line, fieldOf("a", "1")), stanzaOf(line, fieldOf("b", "2")))
	}
}

// P5.3: MaxStanzas stanzas, and one more, which goes ahead of all else.
func TestPrintManyStanzas(t *testing.T) {
	full := slices.Repeat([]api.Stanza{one("a", "")}, api.MaxStanzas)
	wantPrint(t, strings.Repeat("a:\n\n", api.MaxStanzas)[:4*api.MaxStanzas-1], full...)
	wantRefused(t, api.ErrMany, append(full, one("a", ""))...)
	wantRefused(t, api.ErrMany, append([]api.Stanza{one("-", "")}, full...)...)
	wantRefused(t, api.ErrMany, make([]api.Stanza, api.MaxStanzas+1)...)
	wantRefused(t, api.ErrMany, slices.Repeat([]api.Stanza{one("a", strings.Repeat("x", 2000))}, 1000)...)
}

// P5.3: stanzas of no field, of MaxFields fields, and of one more.
func TestPrintManyFields(t *testing.T) {
	full := stanzaOf(0, fieldsOf(api.MaxFields)...)
	wantPrint(t, manyFields(api.MaxFields), full)
	wantPrint(t, manyFields(api.MaxFields)+"\n"+manyFields(api.MaxFields), full, full)
	more := stanzaOf(0, fieldsOf(api.MaxFields+1)...)
	for _, s := range []api.Stanza{more, {}, {Line: 3}, {Fields: []api.Field{}}, {Fields: make([]api.Field, 1000)}} {
		wantRefused(t, api.ErrMany, s)
		wantRefused(t, api.ErrMany, one("a", "1"), s)
		wantRefused(t, api.ErrMany, s, one("a", "1"))
	}
}

// P5.3: names that are none, and such as are, by each sign.
func TestPrintNames(t *testing.T) {
	for _, name := range []string{
		"", " ", "\t", ":", "a:", ":a", "a:b", "a b", " a", "a ", "a\t", "#", "#a", "-", "-a", "--", "é", "aé", "a\xff", "\xff", "\xc3", "a\n", "\na", "a\x00", "\x7f", "a\u00a0", "\ufffd",
	} {
		wantRefused(t, api.ErrForm, one(name, "1"))
		wantRefused(t, api.ErrForm, one("a", "1"), stanzaOf(0, fieldOf("b", "2"), fieldOf(name, "")))
	}
	for c := range 256 {
		sign := string([]byte{byte(c)})
		further := c >= 0x21 && c <= 0x7e && c != ':'
		if further {
			wantPrint(t, "a"+sign+"b: 1\n", one("a"+sign+"b", "1"))
			wantPrint(t, "a"+sign+":\n", one("a"+sign, ""))
		} else {
			wantRefused(t, api.ErrForm, one("a"+sign+"b", "1"))
			wantRefused(t, api.ErrForm, one("a"+sign, ""))
		}
		if further && c != '#' && c != '-' {
			wantPrint(t, sign+"b: 1\n", one(sign+"b", "1"))
			wantPrint(t, sign+":\n", one(sign, ""))
		} else {
			wantRefused(t, api.ErrForm, one(sign+"b", "1"))
			wantRefused(t, api.ErrForm, one(sign, ""))
		}
	}
}

// P5.3: fields without lines; texts that are no good text, by each kind of fault, as the first, a midmost and the last one.
func TestPrintTexts(t *testing.T) {
	wantRefused(t, api.ErrForm, one("a"))
	wantRefused(t, api.ErrForm, stanzaOf(0, api.Field{Name: "a", Lines: []string{}}))
	wantRefused(t, api.ErrForm, stanzaOf(0, fieldOf("a", "1"), fieldOf("b")))
	wantRefused(t, api.ErrForm, one("a", "1"), one("b"))
	for _, bad := range []string{
		"\n", "x\n", "\nx", "x\ny", "\x00", "x\r", "\v", "\f", "\x1f", "\x7f", "\x80", "x\xff", "\xc0\x80", "\xe2\x82", "\xed\xa0\x80", "\xf4\x90\x80\x80",
	} {
		wantRefused(t, api.ErrForm, one("a", bad))
		wantRefused(t, api.ErrForm, one("a", "1", bad))
		wantRefused(t, api.ErrForm, one("a", bad, "1"))
		wantRefused(t, api.ErrForm, one("a", "1", bad, "2"))
		wantRefused(t, api.ErrForm, one("a", "1"), stanzaOf(0, fieldOf("b", ""), fieldOf("c", "1", "", bad)))
	}
}

// P5.3: texts with white space: the first may have none at both ends, further ones none at their end; between it may stand.
func TestPrintTrimmed(t *testing.T) {
	for _, end := range []string{" ", "\t", "  ", " \t"} {
		for _, text := range []string{"x", ".", "#", "x y", "é"} {
			wantRefused(t, api.ErrForm, one("a", end+text))
			wantRefused(t, api.ErrForm, one("a", text+end))
			wantRefused(t, api.ErrForm, one("a", "", text+end))
			wantRefused(t, api.ErrForm, one("a", "", text+end, "1"))
			wantPrint(t, "a: 1\n "+end+text+"\n", one("a", "1", end+text))
		}
		wantRefused(t, api.ErrForm, one("a", end))
		wantRefused(t, api.ErrForm, one("a", "1", end))
		wantPrint(t, "a: x"+end+"y\n x"+end+"y\n", one("a", "x"+end+"y", "x"+end+"y"))
	}
	wantRefused(t, api.ErrForm, one("a", "", "."))
	wantRefused(t, api.ErrForm, one("a", "x", "y", ".", "z"))
	wantRefused(t, api.ErrForm, one("a", ".", "."))
	wantPrint(t, "a: .\n", one("a", "."))
}

// P5.3: a name that stands twice in a stanza, in whatever case.
func TestPrintTwice(t *testing.T) {
	for _, name := range []string{"depends", "DEPENDS", "Depends", "dePendS"} {
		wantRefused(t, api.ErrTwice, stanzaOf(0, fieldOf("Depends", "1"), fieldOf(name, "1")))
		wantRefused(t, api.ErrTwice, one("a", ""), stanzaOf(0, fieldOf("b", "1"), fieldOf("Depends", "1"), fieldOf("c", "1"), fieldOf(name, "")))
		wantPrint(t, "Depends: 1\n\n"+name+": 2\n", one("Depends", "1"), one(name, "2"))
	}
	wantPrint(t, "[: 1\n{: 1\n@:\n`:\n", stanzaOf(0, fieldOf("[", "1"), fieldOf("{", "1"), fieldOf("@", ""), fieldOf("`", "")))
}

// P5.3: lines of MaxLine bytes, as they are printed, and of one more.
func TestPrintLongLine(t *testing.T) {
	long := func(n int) string { return strings.Repeat("x", n) }
	wantPrint(t, "ab: "+long(api.MaxLine-4)+"\n", one("ab", long(api.MaxLine-4)))
	wantRefused(t, api.ErrLong, one("ab", long(api.MaxLine-3)))
	wantPrint(t, "a:\n "+long(api.MaxLine-1)+"\n", one("a", "", long(api.MaxLine-1)))
	wantRefused(t, api.ErrLong, one("a", "", long(api.MaxLine)))
	wantRefused(t, api.ErrLong, one("a", "", long(api.MaxLine), ""))
	wantPrint(t, long(api.MaxLine-1)+":\n", one(long(api.MaxLine-1), ""))
	wantRefused(t, api.ErrLong, one(long(api.MaxLine), ""))
	wantPrint(t, long(api.MaxLine-3)+": y\n", one(long(api.MaxLine-3), "y"))
	wantRefused(t, api.ErrLong, one(long(api.MaxLine-2), "y"))
	wantRefused(t, api.ErrLong, one("a", "1"), stanzaOf(0, fieldOf("b", "1"), fieldOf("c", "", "", long(1<<20))))
	// Bytes count, not characters.
	wide := strings.Repeat("é", (api.MaxLine-4)/2)
	wantPrint(t, "ab: "+wide+"\n", one("ab", wide))
	wantRefused(t, api.ErrLong, one("abc", wide))
}

// P5.3: a print of MaxText bytes, and of one more: with the empty lines between stanzas.
func TestPrintLongText(t *testing.T) {
	for _, n := range []int{3000, api.MaxText - 1, api.MaxText} {
		got, e := Print(sized(n))
		if e != api.OK || len(got) != n {
			t.Errorf("%d bytes: %d, %d", n, len(got), e)
		}
	}
	for _, n := range []int{api.MaxText + 1, api.MaxText + 2, api.MaxText + 500, api.MaxText * 3 / 2} {
		wantRefused(t, api.ErrLong, sized(n)...)
	}
	lines := slices.Repeat([]string{""}, api.MaxText/3)
	full := "a:\n" + strings.Repeat(" .\n", api.MaxText/3-1)
	wantPrint(t, full, one("a", lines...))
	wantRefused(t, api.ErrLong, one("a", append(lines, "")...))
	wantRefused(t, api.ErrLong, one("a", slices.Repeat([]string{"x"}, 1<<20)...))
	// What is left behind a line that had no room counts no more: too long stays too long.
	wantRefused(t, api.ErrLong, one("a", append(slices.Repeat([]string{strings.Repeat("x", 900)}, 73), "", "", "")...))
}

// P5.3: of two faults: stanza by stanza, field by field; of a field first its form, then twice, then a long line; last the length in all.
func TestPrintTwoFaults(t *testing.T) {
	long := strings.Repeat("x", api.MaxLine)
	name, form, twice, line := fieldOf("a b", ""), fieldOf("b", "x "), fieldOf("A", "1"), fieldOf("c", "", long)
	a, b := fieldOf("a", "1"), fieldOf("b", "1")
	big := sized(api.MaxText + 1)
	wantRefused(t, api.ErrForm, stanzaOf(0, a, form, twice))
	wantRefused(t, api.ErrTwice, stanzaOf(0, a, twice, form))
	wantRefused(t, api.ErrLong, stanzaOf(0, a, line, twice))
	wantRefused(t, api.ErrTwice, stanzaOf(0, a, twice, line))
	wantRefused(t, api.ErrLong, stanzaOf(0, a, line, name))
	wantRefused(t, api.ErrForm, stanzaOf(0, a, name, line))
	wantRefused(t, api.ErrForm, stanzaOf(0, a, fieldOf("A", "x ")))
	wantRefused(t, api.ErrForm, stanzaOf(0, a, fieldOf("A", long, ".")))
	wantRefused(t, api.ErrForm, stanzaOf(0, a, fieldOf("A")))
	wantRefused(t, api.ErrTwice, stanzaOf(0, a, fieldOf("A", long)))
	wantRefused(t, api.ErrForm, stanzaOf(0, fieldOf("b", long, "x ")))
	wantRefused(t, api.ErrForm, stanzaOf(0, fieldOf("b", "", long, "\xff")))
	wantRefused(t, api.ErrForm, stanzaOf(0, fieldOf("b"+long+" ", "1")))
	wantRefused(t, api.ErrMany, stanzaOf(0, append(fieldsOf(api.MaxFields), name)...))
	wantRefused(t, api.ErrMany, stanzaOf(0, append([]api.Field{a, twice}, fieldsOf(api.MaxFields)...)...))
	wantRefused(t, api.ErrMany, stanzaOf(0), stanzaOf(0, name))
	wantRefused(t, api.ErrForm, stanzaOf(0, name), stanzaOf(0))
	wantRefused(t, api.ErrTwice, stanzaOf(0, a, b, twice), stanzaOf(0))
	wantRefused(t, api.ErrLong, stanzaOf(0, line), stanzaOf(0))
	wantRefused(t, api.ErrMany, append(big, stanzaOf(0))...)
	wantRefused(t, api.ErrForm, append(big, stanzaOf(0, a, form))...)
	wantRefused(t, api.ErrTwice, append(big, stanzaOf(0, a, b, twice))...)
}

// P5.3 with R2: what is handed in is neither changed nor kept, what lies behind a list's length does not count, each answer is the caller's own.
func TestPrintOwn(t *testing.T) {
	lines := []string{"1", "", "x ", "\xff"}
	fields := []api.Field{{Name: "a", Lines: lines[:2]}, fieldOf("b", "2"), fieldOf("A", "3"), fieldOf("")}
	l := []api.Stanza{{Line: 5, Fields: fields[:2]}, {}, {}}
	want := "a: 1\n .\nb: 2\n"
	first, e := Print(l[:1])
	second, _ := Print(l[:1])
	if e != api.OK || string(first) != want || string(second) != want {
		t.Fatalf("%q, %q, %d", first, second, e)
	}
	clear(first)
	_ = append(first, "more"...)
	third, _ := Print(l[:1])
	if string(second) != want || string(third) != want {
		t.Errorf("an answer that was changed is seen in others: %q, %q", second, third)
	}
	if !slices.Equal(lines, []string{"1", "", "x ", "\xff"}) || l[0].Line != 5 || len(l[1].Fields) > 0 ||
		!sameFields(fields, []api.Field{fieldOf("a", "1", ""), fieldOf("b", "2"), fieldOf("A", "3"), fieldOf("")}) {
		t.Errorf("changed: %q, %q", lines, fields)
	}
}
