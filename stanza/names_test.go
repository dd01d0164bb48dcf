package stanza

import (
	"slices"
	"strings"
	"testing"

	"chandler/api"
)

// wantSame fails, if Same(a, b), or turned round, is not want.
func wantSame(t *testing.T, a, b string, want bool) {
	t.Helper()
	if Same(a, b) != want || Same(b, a) != want {
		t.Errorf("Same(%.80q, %.80q) is not %v", a, b, want)
	}
}

// P5.1: names in unlike case, of unlike lengths, with other signs.
func TestSameKnown(t *testing.T) {
	wantSame(t, "Pre-Depends", "pRE-dEPENDS", true)
	wantSame(t, "Package", "Package", true)
	wantSame(t, "", "", true)
	wantSame(t, "", "a", false)
	wantSame(t, "a", "aa", false)
	wantSame(t, "Package", "Packages", false)
	wantSame(t, "ab", "ba", false)
	wantSame(t, "a", "b", false)
	wantSame(t, "Package", "Package ", false)
	wantSame(t, "a-b", "a_b", false)
	wantSame(t, strings.Repeat("aB", 1<<16), strings.Repeat("Ab", 1<<16), true)
	wantSame(t, strings.Repeat("aB", 1<<16)+"c", strings.Repeat("Ab", 1<<16)+"d", false)
}

// P5.1: each byte against each: only A to Z are as a to z, wherever they stand.
func TestSameBytes(t *testing.T) {
	for c := range 256 {
		for d := range 256 {
			low, high := min(c, d), max(c, d)
			want := c == d || high-low == 32 && low >= 'A' && low <= 'Z'
			a, b := string([]byte{byte(c)}), string([]byte{byte(d)})
			wantSame(t, a, b, want)
			wantSame(t, "x"+a+"Y", "X"+b+"y", want)
		}
	}
}

// P5.1: characters that are as one another in other ways are not the same, nor are bytes that are no characters.
func TestSameCharacters(t *testing.T) {
	for _, pair := range [][2]string{
		{"é", "É"}, {"k", "\u212a"}, {"K", "\u212a"}, {"s", "\u017f"}, {"ı", "I"}, {"ß", "ss"}, {"ａ", "Ａ"}, {"ω", "Ω"}, {"e\u0301", "é"},
		{"\xff", "\xfe"}, {"\xff", "\ufffd"}, {"\x80", "\x81"}, {"a\xe2", "a\xc2"}, {"\xe1", "\xc1"}, {"a", "a\x00"},
	} {
		wantSame(t, pair[0], pair[1], false)
		wantSame(t, pair[0], pair[0], true)
		wantSame(t, "A"+pair[1], "a"+pair[1], true)
	}
}

// P5.4: lines with a space between, each without white space at its ends, and without those that are empty then.
func TestFold(t *testing.T) {
	for _, c := range []struct {
		want  string
		lines []string
	}{
		{"", nil}, {"", []string{}}, {"", []string{""}}, {"", []string{"", "", ""}}, {"", []string{" ", "\t", " \t "}},
		{"a", []string{"a"}}, {"a", []string{" a\t"}}, {"a", []string{"", "a"}}, {"a", []string{"a", ""}}, {"a", []string{"\t", "", "a", "", " "}},
		{"a b", []string{"a", "b"}}, {"a b", []string{" a ", "", "\tb"}}, {"a b c", []string{"a ", "\tb\t", " c"}},
		{"a  b\tc d", []string{"a  b\tc", "d"}}, {". . ..", []string{".", " .", ".."}}, {"# :", []string{"#", ":"}},
		{"b, c | d", []string{"b,", "c | d"}}, {"\u00a0 \u00a0", []string{"\u00a0", " \u00a0"}},
		{"\xff \x00\n \xe2", []string{" \xff", "\x00\n ", "\xe2\t"}}, {"\n", []string{"\n"}},
	} {
		before := slices.Clone(c.lines)
		if got := Fold(c.lines); got != c.want || !slices.Equal(c.lines, before) {
			t.Errorf("Fold(%q) = %q, want %q", before, got, c.want)
		}
	}
	if got := Fold([]string{"a", "b", "c"}[:2]); got != "a b" {
		t.Errorf("a line behind the list's length is told: %q", got)
	}
	if got, want := Fold(slices.Repeat([]string{" x", ""}, 1<<16)), strings.Repeat(" x", 1<<16)[1:]; got != want {
		t.Error("many lines")
	}
}

// wantGet fails, if Get(s, name) is not want and true.
func wantGet(t *testing.T, s api.Stanza, name, want string) {
	t.Helper()
	if got, ok := Get(s, name); got != want || !ok {
		t.Errorf("Get(%q, %q) = %q, %v; want %q", s.Fields, name, got, ok, want)
	}
}

// wantNoGet fails, if Get(s, name) is not nothing and false.
func wantNoGet(t *testing.T, s api.Stanza, name string) {
	t.Helper()
	if got, ok := Get(s, name); got != "" || ok {
		t.Errorf("Get(%q, %q) = %q, %v", s.Fields, name, got, ok)
	}
}

// P5.4: the first field of a name, in whatever case: its lines, folded; nothing of a name that there is not.
func TestGet(t *testing.T) {
	s := stanzaOf(1, fieldOf("Package", "aa"), fieldOf("Depends", "b,", "", " c "), fieldOf("Hold", ""), fieldOf("x", "", "1"))
	for _, name := range []string{"Depends", "depends", "DEPENDS", "dEPENDs"} {
		wantGet(t, s, name, "b, c")
	}
	wantGet(t, s, "package", "aa")
	wantGet(t, s, "hold", "")
	wantGet(t, s, "X", "1")
	for _, name := range []string{"", "Version", "Depend", "Depends ", "Depends:", "Pre-Depends", "aa", "\xff"} {
		wantNoGet(t, s, name)
		wantNoGet(t, api.Stanza{}, name)
	}
}

// P5.4: of stanzas that are none: a name twice, names that are none, fields without lines.
func TestGetRaw(t *testing.T) {
	s := stanzaOf(-3, fieldOf("a", "1"), fieldOf("A", "2"), fieldOf(""), fieldOf("b"), fieldOf("B", "3"), fieldOf("\xff", " \xfe "), fieldOf("c:", "\n"))
	wantGet(t, s, "a", "1")
	wantGet(t, s, "A", "1")
	wantGet(t, s, "", "")
	wantGet(t, s, "B", "")
	wantGet(t, s, "\xff", "\xfe")
	wantGet(t, s, "C:", "\n")
	wantNoGet(t, s, "\xfe")
	wantNoGet(t, s, "c")
	s.Fields = s.Fields[:1]
	wantNoGet(t, s, "b")
	many := stanzaOf(1, fieldsOf(1000)...)
	wantGet(t, many, "F999", "999")
	wantNoGet(t, many, "f1000")
	if !sameFields(many.Fields, fieldsOf(1000)) {
		t.Error("what was handed in is changed")
	}
}
