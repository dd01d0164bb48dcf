package index

import (
	"slices"
	"strings"
	"testing"

	"chandler/api"
)

// noNames tells texts that are the name of no package.
func noNames() []string {
	return []string{"", "a", "AA", "Aa", "aa ", " aa", "aa\n", "aa\x00", "a\xffa", "\u00e4\u00e4", "-aa", "aa 1", strings.Repeat("a", api.MaxName+1), strings.Repeat("a", 100000)}
}

// noVersions tells texts that are no version.
func noVersions() []string {
	return []string{"", " ", "x", "1 ", " 1", "-1", "1-", ":1", "a:1", "1:", "1_0", "1\n", "\xff", "1\xff", strings.Repeat("1", api.MaxVersion+1), strings.Repeat("1", 100000)}
}

// P10.2: names rise, each stands once; what is only provided is no name.
func TestNames(t *testing.T) {
	for _, l := range orders(pkgs("bb 1; Provides: vv, aa (= 3)", "aa 1", "aa 2; Provides: aa", "b0 1; Depends: ww", "aa+ 1")) {
		x := build(t, l...)
		wantNames(t, x, "aa aa+ b0 bb")
	}
	wantNames(t, build(t, pkg("aa 1")), "aa")
	wantNames(t, build(t, versions("aa", api.MaxPackages)...), "aa")
	l := named(api.MaxNames)
	slices.Reverse(l)
	wantNames(t, build(t, l...), "p100 p101 p102 p103 p104 p105 p106 p107 p108 p109")
}

// P10.2: the places of a name rise, and have all packages of that name, and no other that provides it.
func TestOf(t *testing.T) {
	for _, l := range orders(pkgs("aa 1; Provides: bb (= 9)", "bb 1", "bb 3; Provides: bb, vv", "bb 2", "cc 1; Provides: bb")) {
		x := build(t, l...)
		wantOf(t, x, "aa", 0)
		wantOf(t, x, "bb", 1, 2, 3)
		wantOf(t, x, "cc", 4)
		for _, name := range append(noNames(), "vv", "zz", "aaa", "b0") {
			wantOf(t, x, name)
		}
	}
	x := build(t, versions("aa", api.MaxPackages)...)
	if got := x.Of("aa"); len(got) != api.MaxPackages || !slices.IsSorted(got) || got[0] != 0 || got[api.MaxPackages-1] != api.MaxPackages-1 {
		t.Errorf("places %v", got)
	}
}

// P10.2: a version of a name is found, however it is written, and no other.
func TestFind(t *testing.T) {
	for _, l := range orders(pkgs("aa 1", "aa 2-0", "aa 0:03", "aa 1:1", "bb 1", "bb 2~")) {
		x := build(t, l...)
		for place, texts := range [][]string{{"1:1", "01:1", "1:01-0"}, {"3", "03", "0:3", "0:03", "3-0"}, {"2", "2-0", "2-00", "0:2"}, {"1", "01", "0:1", "1-0", "00:01-00"}} {
			for _, v := range texts {
				wantFind(t, x, "aa", v, place)
			}
		}
		wantFind(t, x, "bb", "2~", 4)
		wantFind(t, x, "bb", "1", 5)
		for _, v := range []string{"0", "1~", "1.0", "1-1", "1+", "4", "2:1", "1:2", "10"} {
			wantLost(t, x, "aa", v)
		}
		wantLost(t, x, "bb", "2")
		wantLost(t, x, "bb", "3")
		wantLost(t, x, "cc", "1")
	}
}

// P10.2: texts that are no name or no version are found nowhere; what is provided is not, either.
func TestFindNone(t *testing.T) {
	x := build(t, pkgs("aa 1; Provides: vv (= 1), aa (= 3)", "bb 2; Provides: aa (= 5)")...)
	for _, name := range noNames() {
		wantLost(t, x, name, "1")
		for _, v := range noVersions() {
			wantLost(t, x, name, v)
		}
	}
	for _, v := range noVersions() {
		wantLost(t, x, "aa", v)
		wantLost(t, x, "bb", v)
	}
	wantLost(t, x, "vv", "1")
	wantLost(t, x, "aa", "3")
	wantLost(t, x, "aa", "5")
	wantLost(t, x, "bb", "1")
}
