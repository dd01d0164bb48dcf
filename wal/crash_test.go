package wal

import (
	"bytes"
	"slices"
	"testing"

	"chandler/api"
	"chandler/disk"
)

// picksOf tells rows of kept bits of all kinds, long enough for n sectors: none, all, one in each byte, of one sector alone, any.
func picksOf(n int, seed uint32) [][]byte {
	size := n * api.SectorSize
	kinds := [][]byte{nil, fill(size, 0xff), fill(size, 0x0f), fill(size, 0x55), row(size, seed), row(size/2, seed+1)}
	for bit := range 8 {
		kinds = append(kinds, fill(size, 1<<bit))
	}
	for i := range n {
		one := make([]byte, size)
		copy(one[i*api.SectorSize:], fill(api.SectorSize, 0xff))
		kinds = append(kinds, one, one[:(i+1)*api.SectorSize-1])
	}
	return kinds
}

// P3.4: the power goes at each call of a row of Appends, with kept bits of all kinds: Open tells what was answered OK, in order,
// and at most the one under way; and goes on from there.
func TestCrashAtEachCall(t *testing.T) {
	records := [][]byte{row(5, 1), nil, row(57, 2), fill(120, 0xff), row(200, 3), fill(30, 0)}
	for fuse := 1; fuse < 35; fuse++ {
		for i, picks := range picksOf(6, uint32(fuse)) {
			d := disk.New(30)
			put(t, d, 0, row(30*api.SectorSize, 77))
			Format(d, 1, 29)
			l := wantOpen(t, d, 1, 29, 27)
			d.Fuse(fuse)
			done := appendAll(l, records)
			d.Crash(picks)
			l, got, e := Open(d, 1, 29)
			if e != api.OK || len(got) < done || len(got) > min(done+1, len(records)) {
				t.Fatalf("fuse %d, picks %d: %d records, %v; %d were answered OK", fuse, i, len(got), e, done)
			}
			wantSame(t, got, records[:len(got)])
			if appendAll(l, records[len(got):]) != len(records)-len(got) {
				t.Fatalf("fuse %d, picks %d: it does not go on", fuse, i)
			}
			d.Crash(picks)
			wantOpen(t, d, 1, 29, 27-11, records...)
		}
	}
}

// appendAll appends records up to the first that is refused, and tells how many were answered OK.
func appendAll(l *Log, records [][]byte) int {
	for i, b := range records {
		if l.Append(b) != api.OK {
			return i
		}
	}
	return len(records)
}

// wantSame fails, if the records got are others than want.
func wantSame(t *testing.T, got, want [][]byte) {
	t.Helper()
	if !slices.EqualFunc(got, want, bytes.Equal) {
		t.Fatalf("records %x, want %x", got, want)
	}
}

// P3.4: each single bit of the sectors of a record kept alone, and each alone lost, while they are written and while they are marked.
func TestCrashEachBit(t *testing.T) {
	b := row(60, 9)
	for _, fuse := range []int{2, 3, 4, 5} {
		for i := range 2 * 8 * api.SectorSize {
			for _, rest := range []byte{0, 0xff} {
				d := made(t, 5, 0, 0x3c, "1", sectorsOf([]byte{1}))
				l := wantOpen(t, d, 0, 5, 3, []byte{1})
				d.Fuse(fuse)
				wantErr(t, "Append", l.Append(b), api.ErrDown)
				picks := fill(2*api.SectorSize, rest)
				picks[i/8] ^= 1 << (i % 8)
				d.Crash(picks)
				// The record's own bit of the marks is the second: nothing else of them is written otherwise.
				if kept := picks[0]&0x40 != 0; kept && fuse >= 4 {
					wantOpen(t, d, 0, 5, 1, []byte{1}, b)
				} else {
					wantOpen(t, d, 0, 5, 3, []byte{1})
				}
			}
		}
	}
}

// P3.4: crash behind crash, over what earlier ones have left, up to a full area; a second Open tells the same.
func TestCrashBehindCrash(t *testing.T) {
	for seed := range uint32(150) {
		d := disk.New(40)
		put(t, d, 0, row(40*api.SectorSize, seed))
		Format(d, 3, 37)
		dice := row(600, seed*31+7)
		l := wantOpen(t, d, 3, 37, 33)
		var sure [][]byte
		free := 33
		for at := 0; at+3 < len(dice); at += 4 {
			b := row(int(dice[at])*int(dice[at+1])%400, uint32(at)+seed)
			if dice[at+2]%3 == 0 {
				d.Fuse(int(dice[at+2]) / 3 % 9)
			}
			need := len(sectorsOf(b)) / api.SectorSize
			switch e := l.Append(b); {
			case e == api.OK:
				sure, free = append(sure, b), free-need
			case e == api.ErrRoom && need > free:
			case e == api.ErrDown:
				d.Crash(row(int(dice[at+3])*4, uint32(at)))
				_, got, _ := Open(d, 3, 37)
				if len(got) == len(sure)+1 {
					sure, free = append(sure, b), free-need
				}
				l = wantOpen(t, d, 3, 37, free, sure...)
			default:
				t.Fatalf("seed %d: Append of %d bytes with %d sectors free: %v", seed, len(b), free, e)
			}
			wantLog(t, l, len(sure), free)
		}
		d.Crash(nil)
		wantOpen(t, d, 3, 37, free, sure...)
		if t.Failed() {
			t.Fatalf("seed %d", seed)
		}
	}
}
