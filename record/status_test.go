package record

import (
	"math"
	"strings"
	"testing"

	"chandler/api"
)

// P9.4: texts of entries: unpacked and configured, held and not, with fields in any order, in other cases, of several lines.
func TestStatusKnown(t *testing.T) {
	wantStatus(t, "")
	wantStatus(t, "# nothing\n\n \n")
	if l, at := Status(nil); len(l) > 0 || at != (api.At{}) {
		t.Errorf("Status(nil) = %s, %v", show(l), at)
	}
	aa, bb := pkg("aa", "1"), pkg("bb", "2")
	wantStatus(t, "Package: aa\nVersion: 1\nState: unpacked\n", api.Entry{Pkg: aa})
	wantStatus(t, "Package: aa\nVersion: 1\nState: configured\n", api.Entry{Pkg: aa, Configured: true})
	wantStatus(t, "Package: aa\nVersion: 1\nState: unpacked\nHold: yes\n", api.Entry{Pkg: aa, Hold: true})
	wantStatus(t, "Package: aa\nVersion: 1\nState: configured\nHold: no\n", api.Entry{Pkg: aa, Configured: true})
	wantStatus(t, "hold:\n yes\n# a\nSTATE:\n .\n\tconfigured \nversion: 1\n#\nPACKAGE: aa", api.Entry{Pkg: aa, Configured: true, Hold: true})
	wantStatus(t, wholeText+"State: configured\nHold: yes\n\nState: unpacked\nVersion: 2\nPackage: bb\n", api.Entry{Pkg: whole(), Configured: true, Hold: true}, api.Entry{Pkg: bb})
	wantStatus(t, "Package: aa\nConfigured: yes\nPriority: 3\nX: configured\n y\nVersion: 1\nState: unpacked\n", api.Entry{Pkg: aa})
	wantStatus(t, "Package: aa\nConfigured: no\nVersion: 1\nState: configured\n", api.Entry{Pkg: aa, Configured: true})
}

// P9.4: State is one of two words, in small letters.
func TestStatusState(t *testing.T) {
	for _, s := range []string{
		"", " ", "gone", "Unpacked", "CONFIGURED", "unpacked configured", "unpacked,", "unpack", "configure", "yes", "no", "configuredd", "\u00a0unpacked", "\n .", "\n unpacked\n x", "unpacked\n unpacked",
	} {
		wantStatusFault(t, "Package: aa\nVersion: 1\nState:"+s+"\n", api.ErrForm, 3)
		wantStatusFault(t, "X:\n y\n#\n z\nstate:"+s+"\n", api.ErrForm, 4)
	}
	for _, s := range []string{"", " ", "\t ", "\n ", "\n .\n\t\t"} {
		wantStatus(t, "Package: aa\nVersion: 1\nState:"+s+"unpacked\n", api.Entry{Pkg: pkg("aa", "1")})
		wantStatus(t, "Package: aa\nVersion: 1\nState:"+s+"configured \n .\n", api.Entry{Pkg: pkg("aa", "1"), Configured: true})
	}
}

// P9.4: Hold is yes, or no.
func TestStatusHold(t *testing.T) {
	for _, s := range []string{"", "Yes", "NO", "true", "1", "yes no", "held", "y"} {
		wantStatusFault(t, "Package: aa\nVersion: 1\nState: unpacked\nHold: "+s+"\n", api.ErrForm, 4)
		wantStatusFault(t, "HOLD: "+s+"\nPackage: aa\nVersion: 1\nState: unpacked\n", api.ErrForm, 1)
	}
}

// P9.4: what is not there: Package, Version, State, any of them: at the first line of the stanza.
func TestStatusLack(t *testing.T) {
	three := []string{"Package: aa\n", "Version: 1\n", "State: unpacked\n"}
	for which := range 1 << len(three) {
		s := "# a\n\nHold: yes\nX:\n y\n"
		for i, field := range three {
			if which>>i&1 > 0 {
				s += field
			}
		}
		if which == 1<<len(three)-1 {
			wantStatus(t, s, api.Entry{Pkg: pkg("aa", "1"), Hold: true})
			continue
		}
		wantStatusFault(t, s, api.ErrLack, 3)
		wantStatusFault(t, "Package: aa\nVersion: 1\nState: unpacked\n\n"+s, api.ErrLack, 7)
		wantStatusFault(t, s+"\nPackage: bb\nVersion: x\nState: unpacked\n", api.ErrLack, 3)
	}
	wantStatusFault(t, wholeText, api.ErrLack, 1)
	wantStatusFault(t, wholeText+"Configured: yes\nStates: unpacked\n", api.ErrLack, 1)
}

// P9.4: State is told from the left among the others, whatever is not there; the first stanza that is wrong counts.
func TestStatusTwoFaults(t *testing.T) {
	wantStatusFault(t, "Package: aa\nState: gone\nVersion: x\n", api.ErrForm, 2)
	wantStatusFault(t, "Package: aa\nVersion: x\nState: gone\n", api.ErrForm, 2)
	wantStatusFault(t, "State: gone\n", api.ErrForm, 1)
	wantStatusFault(t, "X: y\nState: gone\n", api.ErrForm, 2)
	full := "Conflicts: aa" + strings.Repeat(", aa", api.MaxClauses) + "\n"
	wantStatusFault(t, full+"State: gone\n", api.ErrMany, 1)
	wantStatusFault(t, "State: gone\n"+full, api.ErrForm, 1)
	wantStatusFault(t, full+"Hold: maybe\n", api.ErrMany, 1)
	wantStatusFault(t, "Package: aa\nVersion: 1\nHold: maybe\n", api.ErrForm, 3)
	wantStatusFault(t, "Package: aa\nVersion: 1\n\nPackage: bb\nVersion: 1\nState: gone\n", api.ErrLack, 1)
	wantStatusFault(t, "Package: aa\nVersion: 1\nState: gone\n\nPackage: bb\n", api.ErrForm, 3)
	wantStatusFault(t, "Package: aa\nVersion: 1\nState: unpacked\n\nfoo\n", api.ErrForm, 5)
	wantStatusFault(t, "Package: aa\nVersion: 1\nState: gone\n\nX: 1\nx: 2\n", api.ErrTwice, 6)
	wantStatusFault(t, "Package: aa\nVersion: 1\nState: gone\nState: unpacked\n", api.ErrTwice, 4)
	wantStatusFault(t, "Package: aa\nState: "+strings.Repeat("x", api.MaxLine), api.ErrLong, 2)
	wantStatusFault(t, strings.Repeat("\n", api.MaxText+1), api.ErrLong, 0)
	wantStatusFault(t, strings.Repeat("X:\n\n", api.MaxStanzas)+"Y:\n", api.ErrMany, 2*api.MaxStanzas+1)
}

// P9.4: what may not be all together is told last, at line 0.
func TestStatusMayEntries(t *testing.T) {
	more := "State: unpacked\n"
	ten := named(api.MaxNames)
	wantStatus(t, stanzasOf(more, ten...), entries(ten...)...)
	wantStatusFault(t, stanzasOf(more, named(api.MaxNames+1)...), api.ErrMany, 0)
	wantStatusFault(t, stanzasOf(more, named(api.MaxStanzas)...), api.ErrMany, 0)
	wantStatusFault(t, stanzasOf(more, versions("aa", api.MaxNames+1)...), api.ErrMany, 0)
	wantStatusFault(t, stanzasOf(more, pkg("bb", "1"), pkg("aa", "1")), api.ErrTwice, 0)
	wantStatusFault(t, stanzasOf(more, pkg("aa", "1"), pkg("aa", "2")), api.ErrTwice, 0)
	wantStatusFault(t, stanzasOf(more, pkg("aa", "1"), pkg("cc", "1"), pkg("bb", "1")), api.ErrTwice, 0)
	wantStatusFault(t, stanzasOf(more, pkg("bb", "1"), pkg("aa", "x")), api.ErrForm, 6)
	wantStatusFault(t, stanzasOf(more, pkg("bb", "1"), pkg("aa", "1"))+"\nPackage: cc\nVersion: 1\n", api.ErrLack, 9)
	wantStatusFault(t, stanzasOf(more, append(ten, pkg("zz", "1"))...)+"\nX:\nHold: -\n", api.ErrForm, 4*(api.MaxNames+1)+2)
}

// P9.4: State and Hold are none of a package's: Of and Packages drop them, State be whatever it is.
func TestStatusFieldsOfPackage(t *testing.T) {
	for _, s := range []string{"gone", "", "configured", "unpacked"} {
		wantPackages(t, "Package: aa\nState: "+s+"\nHold: yes\nVersion: 1\n", pkg("aa", "1"))
		wantOf(t, at(1, line("STATE", s), line("Package", "aa"), line("Version", "1"), line("Hold", "no")), pkg("aa", "1"))
		wantOfFault(t, at(1, line("State", s), line("Package", "aa"), line("Version", "1"), line("Hold", s)), api.ErrForm, 4)
	}
	wantOfFault(t, at(math.MaxInt, line("State", "gone"), line("hold", "maybe")), api.ErrForm, math.MaxInt)
}

// wantPrintStatus fails, if the print of l is not want.
func wantPrintStatus(t *testing.T, want string, l ...api.Entry) {
	t.Helper()
	if b, e := PrintStatus(l); e != api.OK || string(b) != want {
		t.Errorf("PrintStatus(%.300s) = %.500q, %d; want %.500q", show(l), b, e, want)
	}
}

// P9.4: prints of none, of one, of several: a package's fields, then State, then Hold, where it is held.
func TestPrintStatus(t *testing.T) {
	aa := pkg("aa", "1")
	wantPrintStatus(t, "")
	wantPrintStatus(t, "Package: aa\nVersion: 1\nState: unpacked\n", api.Entry{Pkg: aa})
	wantPrintStatus(t, "Package: aa\nVersion: 1\nState: configured\n", api.Entry{Pkg: aa, Configured: true})
	wantPrintStatus(t, "Package: aa\nVersion: 1\nState: unpacked\nHold: yes\n", api.Entry{Pkg: aa, Hold: true})
	wantPrintStatus(t, "Package: aa\nVersion: 1\nState: configured\nHold: yes\n", api.Entry{Pkg: aa, Configured: true, Hold: true})
	wantPrintStatus(t, wholeText+"State: configured\nHold: yes\n\nPackage: no\nVersion: 1\nState: unpacked\n", api.Entry{Pkg: whole(), Configured: true, Hold: true}, api.Entry{Pkg: pkg("no", "1")})
}

// P9.4: of entries that may be, but of which a line is too long to be printed, stanza.Print's error is told.
func TestPrintStatusLong(t *testing.T) {
	for n, want := range map[int]api.Errno{api.MaxLine: api.OK, api.MaxLine + 1: api.ErrLong} {
		p := pkg("aa", "1")
		p.Recommends = clausesOf(n - len("Recommends: "))
		l := []api.Entry{{Pkg: p}, {Pkg: pkg("bb", "1")}}
		if b, e := PrintStatus(l); e != want || (len(b) > 0) != (e == api.OK) {
			t.Errorf("a line of %d bytes: %d, %d", n, len(b), e)
		}
	}
	long := pkg("aa", "1")
	long.Depends = clausesOf(api.MaxLine)
	wantEntries(t, api.ErrTwice, entries(long, long)...)
	wantEntries(t, api.ErrForm, entries(long, pkg("a", "1"))...)
	wantAll(t, api.ErrTwice, long, long)
}
