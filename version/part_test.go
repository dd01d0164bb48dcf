package version

import (
	"math/big"
	"strings"
	"testing"
)

// wantOrder fails, if Part does not tell of each two of l that the one further ahead is earlier.
func wantOrder(t *testing.T, l ...string) {
	t.Helper()
	for i, a := range l {
		for j, b := range l {
			want := 0
			if i < j {
				want = -1
			} else if i > j {
				want = 1
			}
			if got := Part(a, b); got != want {
				t.Errorf("Part(%q, %q) = %d, want %d", a, b, got, want)
			}
		}
	}
}

// wantAlike fails, if Part tells of two of l that one is earlier.
func wantAlike(t *testing.T, l ...string) {
	t.Helper()
	for _, a := range l {
		for _, b := range l {
			if got := Part(a, b); got != 0 {
				t.Errorf("Part(%q, %q) = %d, want 0", a, b, got)
			}
		}
	}
}

// P6.2: the empty text, and a text and its beginning.
func TestPartBeginnings(t *testing.T) {
	wantAlike(t, "", "0", "00")
	wantOrder(t, "", "1")
	wantOrder(t, "", "a")
	wantOrder(t, "", "+")
	wantOrder(t, "~", "")
	wantOrder(t, "a", "aa", "aaa")
	wantOrder(t, "1", "1a", "1a1", "1a1a")
	wantOrder(t, "1", "1.", "1..")
	wantOrder(t, "1.", "1.1")
	wantAlike(t, "1.", "1.0", "1.00")
	wantAlike(t, "a0", "a", "a000")
}

// P6.2: ~ is ahead of the end, and of all else; ~ against ~ and more.
func TestPartTilde(t *testing.T) {
	wantOrder(t, "~~", "~~a", "~", "~a", "~+", "", "a", "+")
	wantOrder(t, "~~~", "~~", "~1", "a~", "a", "a1", "+~", "+")
	wantOrder(t, "1~~", "1~~a", "1~", "1~1", "1~a", "1", "1a~", "1a", "1.~", "1.")
	wantAlike(t, "~", "~0")
	wantOrder(t, "~~", "~0~", "~", "0~1", "")
	wantOrder(t, "1.0~rc1", "1.0~rc2", "1.0~rc10", "1.0", "1.0+b1")
}

// P6.2: letters by their bytes, and ahead of all other signs, which stand by their bytes; all 256 bytes but the digits.
func TestPartSigns(t *testing.T) {
	signs := []string{"~", ""}
	for c := 'A'; c <= 'Z'; c++ {
		signs = append(signs, string(c))
	}
	for c := 'a'; c <= 'z'; c++ {
		signs = append(signs, string(c))
	}
	for c := range 256 {
		letter := 'A' <= c && c <= 'Z' || 'a' <= c && c <= 'z'
		if digit := '0' <= c && c <= '9'; !letter && !digit && c != '~' {
			signs = append(signs, string([]byte{byte(c)}))
		}
	}
	if len(signs) != 256-10+1 {
		t.Fatal("not made as meant")
	}
	wantOrder(t, signs...)
	for _, ahead := range []string{"1", "a", "1.2+", "~", "\xc3"} {
		var l []string
		for _, sign := range signs {
			l = append(l, ahead+sign)
		}
		wantOrder(t, l...)
	}
}

// P6.2: bytes, not characters, are held against each other, wherever a character ends.
func TestPartBytes(t *testing.T) {
	wantOrder(t, "\xc3~", "\xc3", "\xc3a", "\xc3+", "\xc3\x80", "é", "\xc3\xff")
	wantOrder(t, "é~", "é", "éa", "é+", "éé", "é\xff", "€", "\ufffd", "\U0001f600", "\xff")
	wantOrder(t, "１", "２")
	wantOrder(t, "9", "a", "+", "٣", "１")
	wantOrder(t, "\x80", "\xc3", "\xef\xbf\xbc", "\xef\xbf\xbd", "\xff")
	wantOrder(t, "1\x00", "1/", "1:", "1\x7f", "1\x80", "1\xff")
}

// P6.2: the signs to the first digit alone are held against each other: a digit stands as the end does.
func TestPartSignsEnd(t *testing.T) {
	wantOrder(t, "a~1", "a1", "a2", "aa0", "a+0")
	wantOrder(t, "a~", "a", "a1", "ab", "a+")
	wantOrder(t, "1a2", "1a10", "1b1", "1.1")
	wantOrder(t, "1.0", "1.0a~", "1.0a", "1.0.")
	wantOrder(t, "1~9", "1", "1a", "1:", "9")
}

// P6.2: digits by their number, noughts ahead or not, none as 0.
func TestPartNumbers(t *testing.T) {
	wantOrder(t, "0", "1", "2", "9", "10", "11", "99", "100", "1000")
	wantAlike(t, "7", "07", "007", "0000000000000000000000000000000000000007")
	wantAlike(t, "1a", "01a", "1a0", "001a00")
	wantOrder(t, "1.09", "1.10", "1.011", "1.12")
	wantAlike(t, "1.09", "1.9")
	wantOrder(t, "a", "a1", "a02", "a3")
	wantAlike(t, "0a", "00a")
	wantOrder(t, "0", "0a", "0.", "1", "1a", "a", ".1")
	wantOrder(t, "1.0", "1.0a", "1.0.1", "1.1a")
}

// P6.2: numbers at the ends of what integers hold, and rows of digits that no integer holds.
func TestPartLongNumbers(t *testing.T) {
	wantOrder(t, "2147483647", "2147483648", "4294967295", "4294967296", "9007199254740993", "9223372036854775807", "9223372036854775808",
		"18446744073709551615", "18446744073709551616", "18446744073709551617", "184467440737095516160", "340282366920938463463374607431768211456")
	wantAlike(t, "18446744073709551616", "000018446744073709551616")
	wantOrder(t, "18446744073709551616a", "36893488147419103232")
	long := strings.Repeat("7", 1<<16)
	wantOrder(t, "a"+long+"6", "a"+long+"7", "a"+long+"70")
	wantAlike(t, long, "0"+long, strings.Repeat("0", 1<<17)+long)
	wantAlike(t, "", strings.Repeat("0", 1<<17), strings.Repeat("0", 1<<16))
	wantOrder(t, long+"~", long, long+"a")
}

// P6.2: the first that differ decide, whatever is behind.
func TestPartFirstDecides(t *testing.T) {
	wantOrder(t, "1.2.9z", "1.3.0~", "1.10")
	wantOrder(t, "a1~", "a1", "b0~", "b0")
	wantOrder(t, "1a9", "2~0")
	wantOrder(t, "1~zz99", "1a~~")
	long := strings.Repeat("1a", 1<<16)
	wantOrder(t, long+"~", long, long+"1", long+"a", long+"+")
}

// turns tells where s begins, ahead of its first sign that is a digit (or is none).
func turns(s string, digit bool) (string, string) {
	for i, c := range []byte(s) {
		if ('0' <= c && c <= '9') == digit {
			return s[:i], s[i:]
		}
	}
	return s, ""
}

// slowSigns tells P6.2 of rows without digits: by a text in which each sign is one of the same order, and the end too.
func slowSigns(s string) string {
	out := ""
	for _, c := range []byte(s + "\x01") {
		switch {
		case c == '~':
			out += "0"
		case c == 1:
			out += "1"
		case 'a' <= c && c <= 'z' || 'A' <= c && c <= 'Z':
			out += "2" + string([]byte{c})
		default:
			out += "3" + string([]byte{c})
		}
	}
	return out
}

// slowPart tells Part by the document's words, by numbers.
func slowPart(a, b string) int {
	for a != "" || b != "" {
		var signsA, signsB, digitsA, digitsB string
		signsA, a = turns(a, true)
		signsB, b = turns(b, true)
		if order := strings.Compare(slowSigns(signsA), slowSigns(signsB)); order != 0 {
			return order
		}
		digitsA, a = turns(a, false)
		digitsB, b = turns(b, false)
		numberA, _ := new(big.Int).SetString("0"+digitsA, 10)
		numberB, _ := new(big.Int).SetString("0"+digitsB, 10)
		if order := numberA.Cmp(numberB); order != 0 {
			return order
		}
	}
	return 0
}

// P6.2: each two rows of up to three of the signs at which the order turns, against the document's words.
func TestPartRows(t *testing.T) {
	l := rows(3, "~", "0", "1", "9", "a", "B", "+", "\xc3")
	for _, a := range l {
		for _, b := range l {
			if got, want := Part(a, b), slowPart(a, b); got != want {
				t.Fatalf("Part(%q, %q) = %d, want %d", a, b, got, want)
			}
		}
	}
}
