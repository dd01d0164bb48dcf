package version

import (
	"regexp"
	"strings"
	"testing"

	"chandler/api"
)

// wantParts fails, if Parse(s) does not tell these parts.
func wantParts(t *testing.T, s, epoch, upstream, revision string) {
	t.Helper()
	if a, b, c, e := Parse(s); a != epoch || b != upstream || c != revision || e != api.OK {
		t.Errorf("Parse(%q) = %q, %q, %q, %v, want %q, %q, %q", s, a, b, c, e, epoch, upstream, revision)
	}
}

// wantNone fails, if s is a version.
func wantNone(t *testing.T, s string) {
	t.Helper()
	if a, b, c, e := Parse(s); a != "" || b != "" || c != "" || e != api.ErrForm {
		t.Errorf("Parse(%q) = %q, %q, %q, %v, want ErrForm", s, a, b, c, e)
	}
}

// P6.1: versions with and without an epoch and a revision.
func TestParseOrdinary(t *testing.T) {
	wantParts(t, "1", "0", "1", "")
	wantParts(t, "1.2.3", "0", "1.2.3", "")
	wantParts(t, "1.2.3-4", "0", "1.2.3", "4")
	wantParts(t, "2:1.2.3-4", "2", "1.2.3", "4")
	wantParts(t, "2:1.2.3", "2", "1.2.3", "")
	wantParts(t, "1.0~rc1-1ubuntu2.1", "0", "1.0~rc1", "1ubuntu2.1")
	wantParts(t, "1.0+b1", "0", "1.0+b1", "")
	wantParts(t, "0A.z~+", "0", "0A.z~+", "")
}

// P6.1: the empty text, a text of MaxVersion bytes, and one of one more.
func TestParseLengths(t *testing.T) {
	wantNone(t, "")
	for _, ahead := range []string{"1", "1:", "123456789:0-", "1-"} {
		fill := strings.Repeat("7", api.MaxVersion-len(ahead))
		if _, _, _, e := Parse(ahead + fill); e != api.OK {
			t.Errorf("Parse(%q): %v", ahead+fill, e)
		}
		wantNone(t, ahead+fill+"7")
		wantNone(t, ahead+fill+strings.Repeat("7", api.MaxText))
	}
	wantNone(t, "1"+strings.Repeat("é", api.MaxVersion/2))
}

// P6.1: an epoch of no, of one, of nine and of ten digits, with noughts ahead, of what is no digit, with nothing behind it.
func TestParseEpochs(t *testing.T) {
	for _, epoch := range []string{"0", "1", "9", "00", "01", "007", "12", "123456789", "999999999", "000000000", "000000001"} {
		wantParts(t, epoch+":1", epoch, "1", "")
		wantParts(t, epoch+":0.a-b", epoch, "0.a", "b")
		wantNone(t, epoch+":")
		wantNone(t, epoch+":a")
		wantNone(t, epoch+":-1")
		wantNone(t, epoch+"::1")
	}
	for _, epoch := range []string{
		"", "1234567890", "0000000000", "0000000001", "a", "1a", "a1", " ", " 1", "1 ", "+1", "-1", "1-", "1-1", "1.", "~1", "1~", "/", "1/", "\xff", "1\xff", "é", "１", "٣",
	} {
		wantNone(t, epoch+":1")
		wantNone(t, epoch+":1:1")
		wantNone(t, epoch+":1-1")
	}
}

// P6.1: the first one of several colons ends the epoch; the others are of upstream, and of no revision.
func TestParseColons(t *testing.T) {
	wantParts(t, "1:2:3", "1", "2:3", "")
	wantParts(t, "1:2:3:4", "1", "2:3:4", "")
	wantParts(t, "1:2:", "1", "2:", "")
	wantParts(t, "1:2::", "1", "2::", "")
	wantParts(t, "1:2:a-3", "1", "2:a", "3")
	wantParts(t, "1:2-:-3", "1", "2-:", "3")
	for _, s := range []string{":", "::", ":1", "1:", "1::", "1::2", "1:2-3:4", "1:2-:", "1-a:b", "1-2:3", "1-:2", "-:1", "1:-:2"} {
		wantNone(t, s)
	}
}

// P6.1: the last one of several hyphens begins the revision; the others are of upstream.
func TestParseHyphens(t *testing.T) {
	wantParts(t, "1-2-3", "0", "1-2", "3")
	wantParts(t, "1--2", "0", "1-", "2")
	wantParts(t, "1---2", "0", "1--", "2")
	wantParts(t, "007:1a-b-c.1~", "007", "1a-b", "c.1~")
	wantParts(t, "1-0", "0", "1", "0")
	wantParts(t, "1-00", "0", "1", "00")
	wantParts(t, "1-a", "0", "1", "a")
	wantParts(t, "1-~", "0", "1", "~")
	wantParts(t, "1-+", "0", "1", "+")
	for _, s := range []string{"-", "--", "1-", "1--", "1-2-", "-1", "--1", "1:1-", "1:-", "1:-1", "1:1-2-", "a-1", "1-1-é"} {
		wantNone(t, s)
	}
}

// P6.1: each byte in upstream and in a revision, at the beginning, within and at the end; and each two bytes.
func TestParseSigns(t *testing.T) {
	for c := range 256 {
		sign := string([]byte{byte(c)})
		digit := '0' <= c && c <= '9'
		good := digit || 'a' <= c && c <= 'z' || 'A' <= c && c <= 'Z' || c == '+' || c == '.' || c == '~'
		for _, end := range []struct{ ahead, behind string }{{"1-", ""}, {"1-", "a"}, {"1-a", ""}, {"1-a", "b"}} {
			if revision := end.ahead[2:] + sign + end.behind; good {
				wantParts(t, "1:"+end.ahead+sign+end.behind, "1", "1", revision)
			} else if c != '-' || end.behind == "" {
				wantNone(t, "1:"+end.ahead+sign+end.behind)
			}
		}
		for _, upstream := range []string{"1" + sign, "1" + sign + "a", "1a" + sign, "1" + sign + sign} {
			if good || c == ':' || c == '-' {
				wantParts(t, "1:"+upstream+"-1", "1", upstream, "1")
			} else {
				wantNone(t, "1:"+upstream+"-1")
			}
		}
		if digit {
			wantParts(t, sign, "0", sign, "")
			wantParts(t, "1:"+sign+"-1", "1", sign, "1")
		} else {
			wantNone(t, sign)
			wantNone(t, "1:"+sign+"-1")
			wantNone(t, "1:"+sign+"1-1")
		}
	}
}

// P6.1: bytes that are no characters, and characters that are no signs of versions.
func TestParseOtherSigns(t *testing.T) {
	for _, s := range []string{"\xff", "\x80", "\xc3", "\xe2\x82", "é", "\ufffd", "１", "٣", "а", "ｂ", "\u2010", "：", "\x00", "\n", "\t", " ", "_", "/", "=", "<", "!"} {
		for _, text := range []string{s, s + "1", "1" + s, "1" + s + "1", "1-" + s, "1-1" + s, "1-1" + s + "1", s + ":1", "1:" + s, "1:1" + s, "1:1" + s + "-1"} {
			wantNone(t, text)
		}
	}
}

// form is P6.1 in one pattern: epoch, upstream, revision.
var form = regexp.MustCompile(`^(?:([0-9]{1,9}):)?([0-9][-:.+~0-9A-Za-z]*?)(?:-([.+~0-9A-Za-z]+))?$`)

// slowParse tells a short version's parts by the pattern.
func slowParse(s string) (parts [3]string, ok bool) {
	m := form.FindStringSubmatch(s)
	if m == nil || m[1] == "" && strings.Contains(s, ":") || m[3] == "" && strings.Contains(m[2], "-") {
		return parts, false
	}
	if m[1] == "" {
		m[1] = "0"
	}
	return [3]string{m[1], m[2], m[3]}, true
}

// P6.1: each row of up to six of the signs at which the reading turns, against the pattern.
func TestParseRows(t *testing.T) {
	for _, s := range rows(6, ":", "-", "0", "1", "a", "~", "_") {
		if want, ok := slowParse(s); ok {
			wantParts(t, s, want[0], want[1], want[2])
		} else {
			wantNone(t, s)
		}
	}
}
