package record

import (
	"math"
	"slices"
	"strings"
	"testing"

	"chandler/api"
)

// good tells a field of each name that says something, each of several lines, and what the package is of all of them.
func good() ([]api.Field, api.Package) {
	return []api.Field{
		line("Package", "", "aa"), line("Version", " 1:2-3 ", "", "\t"), line("Essential", "", "", "yes"), line("Pre-Depends", "bb"),
		line("Depends", "cc (>=", "1)", "|dd,", "", "ee (<< 2)"), line("Recommends", "ff", "(= 1), gg | hh", "| ii"), line("Conflicts", "jj,", "kk (>> 1.0~rc1)"),
		line("Breaks", "ll (<= 2)", ""), line("Provides", "", "mm (= 3)", ",", "nn"),
		line("Priority", "", "5"), line("Hold", "no"), line("Configured", "", "yes"), line("State", "any", "text"), line("X-Y", "a", "b", "c"), line("Depend", "|"),
	}, whole()
}

// bad tells fields that are none, each with its error.
func bad() []struct {
	field api.Field
	want  api.Errno
} {
	full := "aa" + strings.Repeat(", aa", api.MaxClauses)
	wide := "aa" + strings.Repeat(" | aa", api.MaxAtoms)
	return []struct {
		field api.Field
		want  api.Errno
	}{
		{line("Package", "a"), api.ErrForm}, {line("Package"), api.ErrForm}, {line("Package", "aa", "bb"), api.ErrForm}, {line("package", ""), api.ErrForm},
		{line("Version", "x"), api.ErrForm}, {line("Version"), api.ErrForm}, {line("VERSION", "1", "2"), api.ErrForm},
		{line("Pre-Depends", "|"), api.ErrForm}, {line("Pre-Depends", full), api.ErrMany}, {line("Depends", "aa", "bb"), api.ErrForm}, {line("Depends", wide), api.ErrMany},
		{line("Depends", ","), api.ErrForm}, {line("Recommends", "aa,", ""), api.ErrForm}, {line("Recommends", "aa (1)"), api.ErrForm}, {line("recommends", full, ", a"), api.ErrMany},
		{line("Conflicts", "aa | bb"), api.ErrForm}, {line("Conflicts", full), api.ErrMany}, {line("Breaks", "a"), api.ErrForm}, {line("bREAKS", full), api.ErrMany},
		{line("Provides", "aa (>= 1)"), api.ErrForm}, {line("Provides", "aa | bb"), api.ErrForm}, {line("Provides", full), api.ErrMany},
		{line("Essential", "maybe"), api.ErrForm}, {line("Essential"), api.ErrForm}, {line("Essential", "yes", "yes"), api.ErrForm}, {line("Hold", "YES"), api.ErrForm},
		{line("Configured", "1"), api.ErrForm}, {line("configured", ""), api.ErrForm}, {line("Priority", "-1"), api.ErrForm}, {line("PRIORITY", "1234567890"), api.ErrForm}, {line("Priority"), api.ErrForm},
	}
}

// P9.2: the document's examples; all fields, in this order and the other way round; each left out; each name in other cases.
func TestOfFields(t *testing.T) {
	wantOfFault(t, at(1, line("Package", "aa")), api.ErrLack, 1)
	wantOf(t, at(1, line("Package", "aa"), line("Version", "1"), line("Depends", "bb")), api.Package{Name: "aa", Version: "1", Depends: clauses("bb")})
	fields, want := good()
	wantOf(t, at(1, fields...), want)
	turned := slices.Clone(fields)
	slices.Reverse(turned)
	wantOf(t, at(1, turned...), want)
	upper, lower := slices.Clone(fields), slices.Clone(fields)
	for i := range fields {
		upper[i].Name, lower[i].Name = strings.ToUpper(fields[i].Name), strings.ToLower(fields[i].Name)
	}
	wantOf(t, at(1, upper...), want)
	wantOf(t, at(1, lower...), want)
	for i, clear := range map[int]func(p *api.Package){
		2: func(p *api.Package) { p.Essential = false }, 3: func(p *api.Package) { p.PreDepends = nil }, 4: func(p *api.Package) { p.Depends = nil },
		5: func(p *api.Package) { p.Recommends = nil }, 6: func(p *api.Package) { p.Conflicts = nil }, 7: func(p *api.Package) { p.Breaks = nil },
		8: func(p *api.Package) { p.Provides = nil }, 9: func(p *api.Package) {}, 10: func(p *api.Package) {}, 11: func(p *api.Package) {}, 12: func(p *api.Package) {},
	} {
		_, want := good()
		clear(&want)
		wantOf(t, at(1, slices.Delete(slices.Clone(fields), i, i+1)...), want)
	}
}

// P9.2: fields of relations without lines, or without anything on them, are relations of nothing.
func TestOfEmptyFields(t *testing.T) {
	for _, lines := range [][]string{nil, {}, {""}, {" \t", "", " "}} {
		s := at(1, line("Package", "aa"))
		for _, name := range []string{"Pre-Depends", "Depends", "Recommends", "Conflicts", "Breaks", "Provides", "State", "X", ""} {
			s.Fields = append(s.Fields, line(name, lines...))
		}
		s.Fields = append(s.Fields, line("Version", "1"))
		wantOf(t, s, pkg("aa", "1"))
	}
}

// P9.2: Essential is yes, or no.
func TestOfEssential(t *testing.T) {
	p := pkg("aa", "1")
	wantOf(t, at(1, line("Package", "aa"), line("Version", "1"), line("Essential", "no")), p)
	p.Essential = true
	wantOf(t, at(1, line("Essential", "yes"), line("Package", "aa"), line("Version", "1")), p)
	for _, s := range []string{"", "Yes", "NO", "true", "1", "yes no", "y"} {
		wantOfFault(t, at(1, line("Package", "aa"), line("Version", "1"), line("Essential", s)), api.ErrForm, 3)
	}
}

// P9.2: fields that are none of a package's: of those that have a kind the text must be of it; all others may have any; none is told.
func TestOfOthers(t *testing.T) {
	for _, f := range []api.Field{
		line("State", "gone"), line("State", "configured"), line("state"), line("Hold", "yes"), line("Hold", "no"), line("Configured", "no"), line("Priority", "0"), line("Description", "a", "", " b"),
		line("X", "|", ","), line("", "aa"), line("Package:", "bb"), line("Packages", "bb"), line(" Version", "x"), line("Pre_Depends", "|"), line("\xff", "|"), line("Provide", "|"),
	} {
		wantOf(t, at(1, f, line("Package", "aa"), line("Version", "1")), pkg("aa", "1"))
		wantOf(t, at(1, line("Package", "aa"), line("Version", "1"), f), pkg("aa", "1"))
	}
}

// P9.2: each bad field, at each place among good ones: the error, at Line and as many further as lines of fields stand ahead.
func TestOfLines(t *testing.T) {
	fields, _ := good()
	for _, x := range bad() {
		ahead := 0
		for i, f := range fields {
			// Another field of its name could count instead of it.
			rest := slices.DeleteFunc(slices.Clone(fields[i:]), func(f api.Field) bool { return strings.EqualFold(f.Name, x.field.Name) })
			s := join(fields[:i], []api.Field{x.field}, rest)
			for _, n := range []int{1, 7, 0, -3, math.MinInt, math.MaxInt - ahead} {
				wantOfFault(t, at(n, s...), x.want, n+ahead)
			}
			if strings.EqualFold(f.Name, x.field.Name) {
				break
			}
			ahead += len(f.Lines)
		}
	}
}

// P9.2: of two bad fields the first one's error is told, and of one that is bad and one that is not there the first.
func TestOfTwoFaults(t *testing.T) {
	many := line("Breaks", "aa"+strings.Repeat(", aa", api.MaxClauses))
	form, hold := line("Depends", "|", "|"), line("Hold", "maybe")
	wantOfFault(t, at(4, form, many), api.ErrForm, 4)
	wantOfFault(t, at(4, many, form), api.ErrMany, 4)
	wantOfFault(t, at(4, line("X", "1", "2", "3"), many, form, hold), api.ErrMany, 7)
	wantOfFault(t, at(4, line("X"), line("Y", ""), hold, many, form), api.ErrForm, 5)
	wantOfFault(t, at(4, line("X", "1", "2"), hold), api.ErrForm, 6)
	wantOfFault(t, at(4, line("Package", "aa"), line("Version", "1"), line("Hold", "maybe")), api.ErrForm, 6)
}

// P9.2: without Package, without Version, without both: at Line, whatever else there is.
func TestOfLack(t *testing.T) {
	fields, _ := good()
	for _, n := range []int{1, 5, 0, -1, math.MaxInt, math.MinInt} {
		wantOfFault(t, at(n), api.ErrLack, n)
		wantOfFault(t, at(n, fields[0]), api.ErrLack, n)
		wantOfFault(t, at(n, fields[1]), api.ErrLack, n)
		wantOfFault(t, at(n, fields[1:]...), api.ErrLack, n)
		wantOfFault(t, at(n, append(fields[2:], fields[0])...), api.ErrLack, n)
		wantOfFault(t, at(n, fields[2:]...), api.ErrLack, n)
		wantOfFault(t, at(n, line("Packages", "aa"), line("Name", "aa"), line("Version", "1")), api.ErrLack, n)
	}
}

// P9.2: where a line would be beyond the greatest number, it is that.
func TestOfLinesWrap(t *testing.T) {
	three, two := line("X", "", "", ""), line("Y", "", "")
	for ahead, fields := range map[int][]api.Field{0: {}, 2: {two}, 3: {three}, 5: {two, three}, 8: {three, two, three}} {
		s := append(fields, line("Depends", "|"))
		for less := range 12 {
			wantOfFault(t, at(math.MaxInt-less, s...), api.ErrForm, math.MaxInt-max(less-ahead, 0))
		}
	}
	long := line("X", make([]string, 100000)...)
	wantOfFault(t, at(math.MaxInt-99999, long, line("Depends", "|")), api.ErrForm, math.MaxInt)
	wantOfFault(t, at(math.MaxInt-100000, long, line("Depends", "|")), api.ErrForm, math.MaxInt)
	wantOfFault(t, at(math.MaxInt-100001, long, line("Depends", "|")), api.ErrForm, math.MaxInt-1)
	wantOfFault(t, at(math.MinInt, long, line("Depends", "|")), api.ErrForm, math.MinInt+100000)
}

// P9.2: of a name that stands twice, in whatever case, the first one counts, be it empty; the lines of both do.
func TestOfTwice(t *testing.T) {
	fields, want := good()
	other := []api.Field{
		line("PACKAGE", "zz"), line("version", "9"), line("essential", "no"), line("PRE-depends", "zz"), line("depends", ""), line("RECOMMENDS", "zz", "| zz"), line("conflicts", "zz"),
		line("breaks"), line("PROVIDES", "zz (= 1)"), line("HOLD", "yes"), line("X-Y", "z"),
	}
	wantOf(t, at(1, join(fields, other)...), want)
	for i, f := range other {
		wantOf(t, at(1, join(fields, other[i:i+1])...), want)
		wantOf(t, at(1, join(fields[:i+1], []api.Field{f}, fields[i+1:])...), want)
	}
	wantOf(t, at(1, line("Package", "aa"), line("Version", "1"), line("Depends"), line("Depends", "bb"), line("Essential", "no"), line("essential", "yes"), line("Breaks", ""), line("BREAKS", "cc")), pkg("aa", "1"))
	wantOfFault(t, at(1, line("Package", "aa"), line("package", "", "bb"), line("Depends", "|"), line("depends", "cc")), api.ErrForm, 4)
	wantOfFault(t, at(1, line("Package", "aa"), line("PACKAGE", "", "bb")), api.ErrLack, 1)
	wantOfFault(t, at(1, line("Package", "a"), line("PACKAGE", "bb"), line("Version", "1")), api.ErrForm, 1)
}

// P9.2: a stanza of very many fields.
func TestOfLarge(t *testing.T) {
	fields := slices.Repeat([]api.Field{line("X", "1"), line("Depends", "bb"), line("PACKAGE", "zz"), line("Y")}, 50000)
	fields = append([]api.Field{line("Package", "aa")}, fields...)
	p := pkg("aa", "1")
	p.Depends = clauses("bb")
	wantOf(t, at(1, append(fields, line("Version", "1"))...), p)
	wantOfFault(t, at(1, append(fields, line("Breaks", "|"))...), api.ErrForm, 150002)
}
