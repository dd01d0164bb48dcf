package text

import (
	"strings"
	"testing"
	"unicode/utf8"
)

// slowGood tells Good by the document's words, byte by byte, without the language's own reading of UTF-8.
func slowGood(s string) int {
	for at := 0; at < len(s); {
		size, r := slowRune(s[at:])
		if size == 0 || r < 32 && r != 9 || r == 127 {
			return at
		}
		at += size
	}
	return -1
}

// slowRune tells how many bytes the character has that s begins with, and its number; 0 bytes: it begins with none.
func slowRune(s string) (int, int) {
	size, r, least := 0, 0, 0
	switch c := int(s[0]); {
	case c < 0x80:
		return 1, c
	case c>>5 == 6:
		size, r, least = 2, c&0x1f, 0x80
	case c>>4 == 14:
		size, r, least = 3, c&0x0f, 0x800
	case c>>3 == 30:
		size, r, least = 4, c&0x07, 0x10000
	default:
		return 0, 0
	}
	if len(s) < size {
		return 0, 0
	}
	for _, c := range []byte(s[1:size]) {
		if c>>6 != 2 {
			return 0, 0
		}
		r = r<<6 | int(c&0x3f)
	}
	if r < least || r > 0x10ffff || 0xd800 <= r && r <= 0xdfff {
		return 0, 0
	}
	return size, r
}

// encode tells the bytes that stand for r in so many of them, its shortest ones or not.
func encode(r, size int) string {
	if size == 1 {
		return string([]byte{byte(r)})
	}
	b := make([]byte, size)
	for i := size - 1; i > 0; i-- {
		b[i] = byte(0x80 | r&0x3f)
		r >>= 6
	}
	b[0] = byte(0xff<<(8-size) | r)
	return string(b)
}

// wantGood fails, if Good(s) is not want.
func wantGood(t *testing.T, s string, want int) {
	t.Helper()
	if got := Good(s); got != want {
		t.Errorf("Good(%q) = %d, want %d", s, got, want)
	}
}

// wantPlaced fails, if Good does not find the fault of s at its place, at the beginning, in the midst and at the end of texts.
// A part that has none (place -1) leaves them good.
func wantPlaced(t *testing.T, s string, place int) {
	t.Helper()
	for _, ahead := range []string{"", "a", "a\tb ", "é", "\ufffd", "€\U0001f600"} {
		for _, behind := range []string{"", "z", " ", "é", "\ufffd", "\U0010ffff"} {
			want := -1
			if place >= 0 {
				want = len(ahead) + place
			}
			wantGood(t, ahead+s+behind, want)
		}
	}
}

// P4.1: the document's example, the empty text, and whole texts.
func TestGoodKnown(t *testing.T) {
	for s, want := range map[string]int{
		"": -1, "a": -1, " ": -1, "\t": -1, "\t\t": -1, "aé\xff": 3, "aé": -1,
		"Depends: b,\t c (>= 1)": -1, "Grüße, 世界 \U0001f600": -1,
		"\n": 0, "a\nb": 1, "a\r\n": 1, "\x00": 0, "ab\x00": 2, "\x7f": 0, "~\x7f": 1,
	} {
		wantGood(t, s, want)
	}
}

// P4.1: each character of one byte, wherever it stands: of those below 32 the tab alone is good, and 127 is not.
func TestGoodOneByte(t *testing.T) {
	for c := range 128 {
		if c >= 32 && c <= 126 || c == 9 {
			wantPlaced(t, string(rune(c)), -1)
		} else {
			wantPlaced(t, string(rune(c)), 0)
		}
	}
}

// P4.1: characters of one to four bytes, at the ends of what each number of bytes can tell; U+FFFD itself is one.
func TestGoodCharacters(t *testing.T) {
	for _, r := range []int{
		0x20, 0x7e, 0x80, 0x85, 0x9f, 0xa0, 0xe9, 0x7fe, 0x7ff, 0x800, 0x801, 0xfff, 0x1000, 0x2028, 0x2029, 0x20ac,
		0xcfff, 0xd000, 0xd7fe, 0xd7ff, 0xe000, 0xe001, 0xfdd0, 0xfeff, 0xfffc, 0xfffd, 0xfffe, 0xffff,
		0x10000, 0x10001, 0x1f600, 0x3ffff, 0x40000, 0xfffff, 0x100000, 0x10fffe, 0x10ffff,
	} {
		s := string(rune(r))
		if s != encode(r, len(s)) {
			t.Fatalf("U+%04X: %x", r, s)
		}
		wantPlaced(t, s, -1)
	}
}

// P4.1: characters not by their shortest bytes, surrogates, numbers above U+10FFFF, bytes that begin none.
func TestGoodNoCharacters(t *testing.T) {
	for _, c := range []struct{ r, size int }{
		{0, 2}, {9, 2}, {'a', 2}, {0x7f, 2}, {0, 3}, {9, 3}, {'a', 3}, {0x7f, 3}, {0x80, 3}, {0xe9, 3}, {0x7ff, 3},
		{0, 4}, {'a', 4}, {0xe9, 4}, {0x7ff, 4}, {0x800, 4}, {0x20ac, 4}, {0xfffd, 4}, {0xffff, 4},
		{0xd800, 3}, {0xd801, 3}, {0xdb7f, 3}, {0xdbff, 3}, {0xdc00, 3}, {0xdfff, 3}, {0xd800, 4}, {0xdfff, 4},
		{0x110000, 4}, {0x110001, 4}, {0x13ffff, 4}, {0x140000, 4}, {0x1fffff, 4},
		{'a', 5}, {0x10ffff, 5}, {0x3ffffff, 5}, {'a', 6}, {0x7fffffff, 6},
	} {
		wantPlaced(t, encode(c.r, c.size), 0)
	}
	wantPlaced(t, encode(0xd83d, 3)+encode(0xde00, 3), 0)
	for c := 0x80; c < 0x100; c++ {
		alone := string([]byte{byte(c)})
		wantGood(t, alone, 0)
		wantGood(t, "a"+alone, 1)
		wantGood(t, alone+"a", 0)
		wantGood(t, "é"+alone+alone, 2)
	}
}

// P4.1: characters cut off: at the end, by another character, by white space, by a control.
func TestGoodCutOff(t *testing.T) {
	for _, whole := range []string{"é", "߿", "ࠀ", "€", "\ufffd", "\U00010000", "\U0001f600", "\U0010ffff"} {
		for cut := 1; cut < len(whole); cut++ {
			for _, behind := range []string{"", "a", " ", "\t", "\n", "\x7f", whole, whole[:cut], "\xff"} {
				wantGood(t, whole[:cut]+behind, 0)
				wantGood(t, "ab "+whole[:cut]+behind, 3)
				wantGood(t, whole+whole[:cut]+behind, len(whole))
			}
			wantGood(t, whole+whole[cut:], len(whole))
			wantGood(t, whole[cut:], 0)
		}
	}
}

// P4.1: of two faults the first one is told, of whatever kinds they are.
func TestGoodFirstFault(t *testing.T) {
	faults := []string{"\x00", "\n", "\x1f", "\x7f", "\xff", "\x80", "\xc0\x80", "\xe2\x82", "\xed\xa0\x80", "\xf4\x90\x80\x80", "\xf0\x9f"}
	for _, first := range faults {
		for _, second := range faults {
			wantGood(t, first+"a"+second, 0)
			wantGood(t, "aé"+first+"b"+second, 3)
			wantGood(t, "\ufffd\t"+first+"\ufffd"+second+"\n", 4)
		}
	}
}

// P4.1: each character there is, against the document's words.
func TestGoodAllCharacters(t *testing.T) {
	for r := range 0x110000 + 0x100 {
		for size := 1; size <= 4; size++ {
			if r>>[]int{0, 8, 11, 16, 21}[size] != 0 {
				continue
			}
			s := encode(r, size)
			if got, want := Good(s), slowGood(s); got != want {
				t.Fatalf("Good(%x) = %d, want %d", s, got, want)
			}
		}
	}
}

// P4.1: each row of up to two bytes, and longer ones of bytes at which the reading of UTF-8 turns, against the document's words.
func TestGoodAllRows(t *testing.T) {
	for n := range 1 << 16 {
		for _, b := range [][]byte{{byte(n)}, {byte(n), byte(n >> 8)}} {
			wantGood(t, string(b), slowGood(string(b)))
		}
	}
	turns := "\x09\x1f\x61\x7f\x80\x8f\x90\x9f\xa0\xbf\xc1\xc2\xdf\xe0\xe1\xed\xef\xf0\xf4\xf5\xff"
	for n := range len(turns) * len(turns) * len(turns) * len(turns) * len(turns) {
		var b [5]byte
		for i := range b {
			b[i] = turns[n%len(turns)]
			n /= len(turns)
		}
		if got, want := Good(string(b[:])), slowGood(string(b[:])); got != want {
			t.Fatalf("Good(%x) = %d, want %d", b, got, want)
		}
	}
}

// P4.1: a text far longer than MaxText, with its fault at the end or without one.
func TestGoodLong(t *testing.T) {
	long := strings.Repeat("aé€\U0001f600\t\ufffd", 1<<16)
	if !utf8.ValidString(long) {
		t.Fatal("not made as meant")
	}
	if Good(long) != -1 {
		t.Error("a long good text is none")
	}
	if got := Good(long + "\xff"); got != len(long) {
		t.Errorf("the fault at %d is told at %d", len(long), got)
	}
}
