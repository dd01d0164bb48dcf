package text

import (
	"bytes"
	"math"
	"slices"
	"strconv"
	"strings"
	"testing"

	"chandler/api"
)

// wantLines fails, if Lines(s) is not want.
func wantLines(t *testing.T, s string, want ...string) {
	t.Helper()
	got, at := Lines([]byte(s))
	if at != (api.At{}) || !slices.Equal(got, want) {
		t.Errorf("Lines(%.80q) = %.80q, %v; want %.80q", s, got, at, want)
	}
}

// wantFault fails, if Lines(s) does not tell that error at that line, and nothing beside it.
func wantFault(t *testing.T, s string, e api.Errno, line int) {
	t.Helper()
	got, at := Lines([]byte(s))
	if want := (api.At{Err: e, Line: line}); at != want || len(got) > 0 {
		t.Errorf("Lines(%.80q): %d lines, %v; want %v", s, len(got), at, want)
	}
}

// long tells a row of n signs.
func long(n int) string {
	return strings.Repeat("b", n)
}

// P4.2: what stands between line feeds; the last one counts, if it is not empty.
func TestLinesKnown(t *testing.T) {
	wantLines(t, "")
	wantLines(t, "\n", "")
	wantLines(t, "\n\n", "", "")
	wantLines(t, "a", "a")
	wantLines(t, "a\n", "a")
	wantLines(t, "a\n\n", "a", "")
	wantLines(t, "a\nb", "a", "b")
	wantLines(t, "a\nb\n", "a", "b")
	wantLines(t, "\na", "", "a")
	wantLines(t, "\n\n\na\n\n\n", "", "", "", "a", "", "")
	wantLines(t, "a\n\nb", "a", "", "b")
	wantLines(t, " \n\t\n ", " ", "\t", " ")
	wantLines(t, " a \n\tb\t\n", " a ", "\tb\t")
	wantLines(t, "Grüße\n世界\n\U0001f600\ufffd\n", "Grüße", "世界", "\U0001f600\ufffd")
	wantLines(t, "a\u2028b\u0085c", "a\u2028b\u0085c")
	if l, at := Lines(nil); len(l) != 0 || at != (api.At{}) {
		t.Errorf("Lines(nil) = %q, %v", l, at)
	}
}

// P4.2: a text of MaxText bytes, and of one more; that goes ahead of all faults of lines, and is of no line.
func TestLinesText(t *testing.T) {
	wantLines(t, strings.Repeat("\n", api.MaxText), make([]string, api.MaxText)...)
	wantFault(t, strings.Repeat("\n", api.MaxText+1), api.ErrLong, 0)
	line := long(api.MaxLine - 1)
	full := strings.Repeat(line+"\n", api.MaxText/api.MaxLine)
	rest := long(api.MaxText - len(full))
	want := append(slices.Repeat([]string{line}, api.MaxText/api.MaxLine), rest)
	wantLines(t, full+rest, want...)
	wantFault(t, full+rest+"b", api.ErrLong, 0)
	wantFault(t, full+rest+"\n", api.ErrLong, 0)
	wantFault(t, "\xff\n"+full+rest, api.ErrLong, 0)
	wantFault(t, long(api.MaxText), api.ErrLong, 1)
	wantFault(t, long(api.MaxText+1), api.ErrLong, 0)
	wantFault(t, strings.Repeat("\xff", api.MaxText+1), api.ErrLong, 0)
	wantFault(t, strings.Repeat("\n\x00", api.MaxText), api.ErrLong, 0)
	two := strings.Repeat("é\n", api.MaxText/3)
	wantLines(t, two+"a", append(slices.Repeat([]string{"é"}, api.MaxText/3), "a")...)
	wantFault(t, two+"é", api.ErrLong, 0)
}

// P4.2: a line of MaxLine bytes, and of one more: bytes count, not characters, and the line feed does not.
func TestLinesLine(t *testing.T) {
	line := long(api.MaxLine)
	wide := strings.Repeat("é", api.MaxLine/2)
	for _, full := range []string{line, wide, strings.Repeat(" ", api.MaxLine), strings.Repeat("\U0001f600", api.MaxLine/4)} {
		wantLines(t, full, full)
		wantLines(t, full+"\n", full)
		wantLines(t, "a\n\n"+full+"\n"+full, "a", "", full, full)
		for _, more := range []string{"b", "é", " ", "\t"} {
			wantFault(t, full+more, api.ErrLong, 1)
			wantFault(t, full+more+"\n", api.ErrLong, 1)
			wantFault(t, more+full+"\n", api.ErrLong, 1)
			wantFault(t, full+"\n"+full+more, api.ErrLong, 2)
			wantFault(t, "a\n\n"+full+"\n"+full+more+"\n"+full, api.ErrLong, 4)
		}
	}
}

// P4.2: a line that is no good text, by each kind of fault, as the first, a midmost and the last line, with and without a feed.
func TestLinesForm(t *testing.T) {
	for _, bad := range []string{
		"\x00", "\r", "\v", "\f", "\x1b", "\x1f", "\x7f", "\x80", "\xff", "\xc0\x80", "\xe2\x82", "\xed\xa0\x80", "\xf4\x90\x80\x80",
		"a\r", "\x00a", "a\x7fb", "é\xff", " \xc3", long(api.MaxLine-1) + "\xff",
	} {
		wantFault(t, bad, api.ErrForm, 1)
		wantFault(t, bad+"\n", api.ErrForm, 1)
		wantFault(t, bad+"\na\nb\n", api.ErrForm, 1)
		wantFault(t, "a\n"+bad+"\nb", api.ErrForm, 2)
		wantFault(t, "\n\n\n"+bad, api.ErrForm, 4)
		wantFault(t, "\na\n\n\n"+bad+"\n\n", api.ErrForm, 5)
	}
	wantFault(t, "a\xc3\n\xa9", api.ErrForm, 1)
	wantFault(t, strings.Repeat("\n", 40000)+"\xff", api.ErrForm, 40001)
}

// P4.2: of two faults: the first line's; of one line ErrLong, wherever in it the other stands.
func TestLinesTwoFaults(t *testing.T) {
	tooLong := long(api.MaxLine + 1)
	for _, bad := range []string{"\xff", "\x00", "\xe2\x82", "\r"} {
		wantFault(t, bad+tooLong, api.ErrLong, 1)
		wantFault(t, tooLong+bad, api.ErrLong, 1)
		wantFault(t, "\n\n"+long(600)+bad+long(600)+"\n", api.ErrLong, 3)
		wantFault(t, long(api.MaxLine)+bad, api.ErrLong, 1)
		wantFault(t, strings.Repeat(bad, api.MaxLine+1), api.ErrLong, 1)
		wantFault(t, bad+"\n"+tooLong, api.ErrForm, 1)
		wantFault(t, tooLong+"\n"+bad, api.ErrLong, 1)
		wantFault(t, "a\n"+bad+"\n\n"+tooLong+"\n", api.ErrForm, 2)
		wantFault(t, "a\n\n"+tooLong+"\n"+bad, api.ErrLong, 3)
		wantFault(t, bad+"\n"+bad, api.ErrForm, 1)
	}
	wantFault(t, tooLong+"\n"+tooLong, api.ErrLong, 1)
}

// P4.2 with R2: the bytes are neither changed nor kept, what lies behind their length does not count, and each answer is the caller's own.
func TestLinesOwn(t *testing.T) {
	b := []byte("one\ntwo\nthree\xff\xff")
	before := bytes.Clone(b)
	first, at := Lines(b[:11])
	second, _ := Lines(b[:11])
	if at != (api.At{}) || !bytes.Equal(b, before) {
		t.Fatalf("%v, %q", at, b)
	}
	clear(b)
	first[0] = "changed"
	first = append(first, "more")
	if want := []string{"one", "two", "thr"}; !slices.Equal(second, want) || !slices.Equal(first[1:3], want[1:]) {
		t.Errorf("%q, %q", first, second)
	}
}

// P4.3: words, with white space of both kinds between, ahead and behind, and none at all; no other sign is white space.
func TestWords(t *testing.T) {
	for _, c := range []struct {
		s    string
		want []string
	}{
		{"", nil}, {" ", nil}, {"\t", nil}, {" \t \t\t  ", nil},
		{"a", []string{"a"}}, {" a", []string{"a"}}, {"a\t", []string{"a"}}, {"\t a \t", []string{"a"}},
		{"a b", []string{"a", "b"}}, {"a\tb", []string{"a", "b"}}, {"a \t b", []string{"a", "b"}},
		{" a\t b  c ", []string{"a", "b", "c"}},
		{"install aa=1.0", []string{"install", "aa=1.0"}},
		{"a\nb", []string{"a\nb"}}, {"a\r\v\f b\r", []string{"a\r\v\f", "b\r"}},
		{"a\u00a0b\u0085c\u2003d\u3000e\u2028f", []string{"a\u00a0b\u0085c\u2003d\u3000e\u2028f"}},
		{"é \ufffd\t世界", []string{"é", "\ufffd", "世界"}},
		{"\xff \xe2\x82\t\x00", []string{"\xff", "\xe2\x82", "\x00"}},
		{"\xe2 \x82\xac", []string{"\xe2", "\x82\xac"}}, {"\xc2\t\xa0\xc2", []string{"\xc2", "\xa0\xc2"}},
	} {
		if got := Words(c.s); !slices.Equal(got, c.want) {
			t.Errorf("Words(%q) = %q, want %q", c.s, got, c.want)
		}
	}
}

// P4.3: each sign between two others: a space and a tab alone part them, and are trimmed.
func TestWhiteSpace(t *testing.T) {
	for r := rune(0); r <= 0x3100; r++ {
		s := string(r)
		parts := r == ' ' || r == '\t'
		if got := len(Words("a" + s + "b")); (got == 2) != parts {
			t.Errorf("%U parts into %d", r, got)
		}
		if got := Trim(s + "a" + s); (got == "a") != parts || !parts && got != s+"a"+s {
			t.Errorf("%U: trimmed to %q", r, got)
		}
	}
	for c := 0x80; c < 0x100; c++ {
		s := string([]byte{byte(c)})
		if len(Words("a"+s+"b")) != 1 || Trim(s+" a "+s) != s+" a "+s || Trim(" "+s+"\t") != s {
			t.Errorf("byte %x is white space", c)
		}
	}
}

// P4.3: the same words of longer texts, by bytes, and each answer the caller's own.
func TestWordsMany(t *testing.T) {
	var s strings.Builder
	var want []string
	for i := range 20000 {
		word := strconv.Itoa(i)
		s.WriteString(strings.Repeat(" ", i%3) + strings.Repeat("\t", 1+i%2) + word)
		want = append(want, word)
	}
	got := Words(s.String())
	if !slices.Equal(got, want) {
		t.Fatal("other words")
	}
	clear(got)
	if !slices.Equal(Words(s.String()), want) {
		t.Error("an answer that was changed is seen in the next one")
	}
}

// P4.3: Trim takes white space of both kinds from both ends, and leaves what is in between.
func TestTrim(t *testing.T) {
	for s, want := range map[string]string{
		"": "", " ": "", "\t": "", " \t\t ": "", "a": "a", " a": "a", "a ": "a", "\ta": "a", "a\t": "a", " \ta b\t ": "a b",
		"a \t b": "a \t b", "\t\ta\t": "a", ".": ".", " . ": ".",
		"\na\n": "\na\n", " \n a \r ": "\n a \r", "\u00a0a\u00a0": "\u00a0a\u00a0", " \u2003a\u3000\t": "\u2003a\u3000",
		"\v a": "\v a", "a \f": "a \f", "\x00 ": "\x00", " é ": "é", " \ufffd ": "\ufffd",
		" \xff\t": "\xff", "\t\xe2\x82 ": "\xe2\x82", " \x80": "\x80", "\xc2 ": "\xc2",
	} {
		if got := Trim(s); got != want {
			t.Errorf("Trim(%q) = %q, want %q", s, got, want)
		}
	}
}

// wantName fails, if Name(s) is not want.
func wantName(t *testing.T, s string, want bool) {
	t.Helper()
	if Name(s) != want {
		t.Errorf("Name(%q) is not %v", s, want)
	}
}

// P4.4: the document's examples, names of each length, the longest ones among them.
func TestNameLength(t *testing.T) {
	wantName(t, "libc6", true)
	wantName(t, "C", false)
	for n := range 3 * api.MaxName {
		may := n >= 2 && n <= api.MaxName
		wantName(t, strings.Repeat("a", n), may)
		wantName(t, strings.Repeat("0", n), may)
		wantName(t, "g"+strings.Repeat("+", max(n-1, 0)), may && n > 1)
	}
	wantName(t, strings.Repeat("a", 1<<20), false)
	for _, s := range []string{"é", "aé", "éa", "\xff\xff", "世"} {
		wantName(t, s, false)
	}
}

// P4.4: each byte, and signs of more bytes, as the first, a midmost and the last one of a name.
func TestNameSigns(t *testing.T) {
	for c := range 0x110000 {
		s := string(rune(c))
		if c < 256 {
			s = string([]byte{byte(c)})
		} else if c > 0x3000 && c%97 != 0 {
			continue
		}
		first := c < 128 && strings.Contains("abcdefghijklmnopqrstuvwxyz0123456789", s)
		further := first || c < 128 && strings.Contains("+-.", s)
		wantName(t, s+"a", first)
		wantName(t, s+"0+-.", first)
		wantName(t, "a"+s, further)
		wantName(t, "9"+s, further)
		wantName(t, "a"+s+"b", further)
		wantName(t, "lib-x.y+z"+s, further)
		wantName(t, "a"+s+"-", further)
	}
}

// P4.4: names of signs that may stand in them, one beside the other, and such as one sign spoils.
func TestNameKnown(t *testing.T) {
	for s, want := range map[string]bool{
		"aa": true, "a1": true, "1a": true, "00": true, "g++": true, "a-": true, "a.": true, "a+": true, "0.": true, "a+.-b": true,
		"zz": true, "99": true, "libstdc++-12-dev": true, "python3.11": true,
		"": false, "a": false, "0": false, "+": false, "-a": false, "+a": false, ".a": false, "--": false, "..": false,
		"Aa": false, "aA": false, "a_b": false, "a b": false, " aa": false, "aa ": false, "aa\n": false, "a:b": false, "a/b": false, "a,b": false,
		"aa\x00": false, "a\xc3\xa9": false, "a\xff": false, "\xe0\x81\xa1a": false, "aａ": false, "a٣": false,
	} {
		wantName(t, s, want)
	}
}

// P4.4: a name that is handed in by a piece of a longer text: what stands around it does not count.
func TestNamePiece(t *testing.T) {
	s := "A" + strings.Repeat("b", api.MaxName) + "_"
	wantName(t, s[1:len(s)-1], true)
	wantName(t, s[1:], false)
	wantName(t, s[:3], false)
}

// wantNumber fails, if Number(s) is not want and true.
func wantNumber(t *testing.T, s string, want int) {
	t.Helper()
	if n, ok := Number(s); n != want || !ok {
		t.Errorf("Number(%q) = %d, %v; want %d", s, n, ok, want)
	}
}

// wantNoNumber fails, if Number(s) is not 0 and false.
func wantNoNumber(t *testing.T, s string) {
	t.Helper()
	if n, ok := Number(s); n != 0 || ok {
		t.Errorf("Number(%.80q) = %d, %v", s, n, ok)
	}
}

// P4.4: decimals of one to nine digits, at the ends of each length, and of ten and more.
func TestNumberLength(t *testing.T) {
	wantNoNumber(t, "")
	ten := 1
	for digits := 1; digits <= 9; digits++ {
		for _, n := range []int{ten, ten + 1, 2 * ten, 5*ten - 1, 9 * ten, 10*ten - 1} {
			wantNumber(t, strconv.Itoa(n), n)
		}
		ten *= 10
	}
	wantNumber(t, "0", 0)
	wantNumber(t, "123456789", 123456789)
	wantNumber(t, "999999999", 999999999)
	for _, n := range []int{1000000000, 1234567890, 9999999999, math.MaxInt32, math.MaxUint32, 1 << 32, 1<<32 + 1, math.MaxInt} {
		wantNoNumber(t, strconv.Itoa(n))
	}
	wantNoNumber(t, "18446744073709551616")
	wantNoNumber(t, strings.Repeat("1", 1<<20))
	wantNoNumber(t, strings.Repeat("0", 1<<20))
}

// P4.4: needless noughts; noughts that are needed.
func TestNumberNoughts(t *testing.T) {
	for n := 2; n <= 12; n++ {
		wantNoNumber(t, strings.Repeat("0", n))
	}
	for _, s := range []string{"01", "00", "007", "010", "0123456789", "012345678", "0000000001"} {
		wantNoNumber(t, s)
	}
	wantNumber(t, "10", 10)
	wantNumber(t, "100000000", 100000000)
	wantNumber(t, "909", 909)
}

// P4.4: each sign alone, ahead of digits, between and behind them: digits alone are a number.
func TestNumberSigns(t *testing.T) {
	for r := rune(0); r <= 0x3000; r++ {
		if r >= '0' && r <= '9' {
			wantNumber(t, string(r), int(r-'0'))
			wantNumber(t, "1"+string(r)+"2", 102+10*int(r-'0'))
			wantNumber(t, "45"+string(r), 450+int(r-'0'))
			continue
		}
		for _, s := range []string{string(r), string(r) + "1", "1" + string(r), "1" + string(r) + "2", "0" + string(r)} {
			wantNoNumber(t, s)
		}
	}
	for _, s := range []string{"-1", "+1", "-0", "- 1", "1_000", "1e3", "0x1", "1.0", "1,0", " 1", "1 ", "1\n", "\xff", "1\xff", "\xc0\xb1", "１", "٣", "1\x00"} {
		wantNoNumber(t, s)
	}
}

// P4.4: every number of up to five digits, and its digits with a nought ahead.
func TestNumberAll(t *testing.T) {
	for n := range 100000 {
		s := strconv.Itoa(n)
		wantNumber(t, s, n)
		wantNoNumber(t, "0"+s)
	}
}
