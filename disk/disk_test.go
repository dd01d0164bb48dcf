package disk

import (
	"bytes"
	"math"
	"slices"
	"testing"

	"chandler/api"
)

// full tells a sector's bytes, all of them x.
func full(x byte) []byte {
	return bytes.Repeat([]byte{x}, api.SectorSize)
}

// row tells n bytes that look like none in particular, the same ones at every run.
func row(n int, seed uint32) []byte {
	b := make([]byte, n)
	for i := range b {
		seed = seed*1664525 + 1013904223
		b[i] = byte(seed >> 24)
	}
	return b
}

// wantRead fails, if the sector i does not read want.
func wantRead(t *testing.T, d *Disk, i int, want []byte) {
	t.Helper()
	if got, e := d.Read(i); e != api.OK || !bytes.Equal(got, want) {
		t.Errorf("sector %d: %x, %v; want %x", i, got, e, want)
	}
}

// wantErr fails, if got is not want.
func wantErr(t *testing.T, what string, got, want api.Errno) {
	t.Helper()
	if got != want {
		t.Errorf("%s: %v, want %v", what, got, want)
	}
}

// contents tells what all sectors read, one behind the other.
func contents(t *testing.T, d *Disk) []byte {
	t.Helper()
	var all []byte
	for i := range d.Len() {
		b, e := d.Read(i)
		if e != api.OK || len(b) != api.SectorSize {
			t.Fatalf("sector %d: %d bytes, %v", i, len(b), e)
		}
		all = append(all, b...)
	}
	return all
}

// P2.1: how many sectors there are, at both ends of the range and beyond them.
func TestNewLen(t *testing.T) {
	for n, want := range map[int]int{
		math.MinInt: 0, -4: 0, -1: 0, 0: 0, 1: 1, 2: 2, 400: 400,
		api.MaxSectors - 1: api.MaxSectors - 1, api.MaxSectors: api.MaxSectors,
		api.MaxSectors + 1: api.MaxSectors, math.MaxInt: api.MaxSectors,
	} {
		if got := New(n).Len(); got != want {
			t.Errorf("New(%d).Len() = %d, want %d", n, got, want)
		}
	}
}

// P2.1: a new disk is up, has counted nothing, and reads 0 everywhere; its zeros are sure.
func TestNewIsZeroAndSure(t *testing.T) {
	for _, n := range []int{1, 3, api.MaxSectors} {
		d := New(n)
		if d.Down() || d.Calls() != 0 {
			t.Errorf("New(%d): down %v, calls %d", n, d.Down(), d.Calls())
		}
		if !bytes.Equal(contents(t, d), make([]byte, n*api.SectorSize)) {
			t.Errorf("New(%d) does not read 0", n)
		}
		d.Write(n-1, full(0xff))
		d.Crash(nil)
		wantRead(t, d, n-1, full(0))
	}
}

// P2.2: a sector reads what was written last; the others read what they did.
func TestWriteReads(t *testing.T) {
	d := New(3)
	a, b := row(api.SectorSize, 1), row(api.SectorSize, 2)
	for _, c := range []struct {
		i int
		b []byte
	}{{0, a}, {2, b}, {0, b}, {0, a}} {
		wantErr(t, "Write", d.Write(c.i, c.b), api.OK)
		wantRead(t, d, c.i, c.b)
	}
	wantRead(t, d, 0, a)
	wantRead(t, d, 1, full(0))
	wantRead(t, d, 2, b)
}

// P2.2: a sector that there isn't, a row of another length, both: ErrArg, and nothing has changed but Calls.
func TestWriteWrong(t *testing.T) {
	d := New(2)
	good := row(api.SectorSize, 3)
	d.Write(0, good)
	d.Write(1, good)
	before := contents(t, d)
	calls := d.Calls()
	for _, c := range []struct {
		i int
		b []byte
	}{
		{2, full(9)}, {-1, full(9)}, {math.MaxInt, full(9)}, {math.MinInt, full(9)}, {api.MaxSectors, full(9)},
		{0, nil}, {0, []byte{}}, {0, full(9)[1:]}, {0, append(full(9), 9)}, {1, append(full(9), full(9)...)}, {2, nil}, {-1, full(9)[1:]},
	} {
		wantErr(t, "Write", d.Write(c.i, c.b), api.ErrArg)
		calls++
		if d.Calls() != calls {
			t.Errorf("Write(%d, %d bytes): %d calls, want %d", c.i, len(c.b), d.Calls(), calls)
		}
	}
	if !bytes.Equal(contents(t, d), before) || d.Down() {
		t.Error("a Write that was refused has changed something")
	}
	wantErr(t, "Write on no sectors", New(0).Write(0, full(1)), api.ErrArg)
}

// P2.2: what was flushed is sure, of all sectors; what was written since is not.
func TestFlushSure(t *testing.T) {
	d := New(4)
	for i := range 4 {
		d.Write(i, full(byte(i+1)))
	}
	wantErr(t, "Flush", d.Flush(), api.OK)
	d.Write(1, full(0x80))
	d.Write(3, full(0x40))
	d.Crash(nil)
	for i := range 4 {
		wantRead(t, d, i, full(byte(i+1)))
	}
	wantErr(t, "Flush of no sectors", New(0).Flush(), api.OK)
}

// P2.2: what is sure stays what it was at the last Flush, however often a sector is written since.
func TestSureIsOfTheLastFlush(t *testing.T) {
	d := New(1)
	d.Write(0, full(1))
	d.Flush()
	d.Write(0, full(2))
	d.Flush()
	d.Write(0, full(4))
	d.Write(0, full(8))
	d.Crash(full(0x08)) // the bit 2 stays old, the bit 8 is new
	wantRead(t, d, 0, full(0x0a))
}

// P2.2: Write and Flush count, whatever they answer; nothing else does.
func TestCalls(t *testing.T) {
	d := New(2)
	var want int
	step := func(what string, n int, call func()) {
		t.Helper()
		call()
		want += n
		if d.Calls() != want {
			t.Errorf("behind %s: %d calls, want %d", what, d.Calls(), want)
		}
	}
	step("Write", 1, func() { d.Write(0, full(1)) })
	step("Flush", 1, func() { d.Flush() })
	step("a wrong Write", 1, func() { d.Write(2, full(1)) })
	step("Read", 0, func() { d.Read(0) })
	step("a wrong Read", 0, func() { d.Read(7) })
	step("Len, Down, Copy", 0, func() { d.Len(); d.Down(); d.Copy() })
	step("Fuse", 0, func() { d.Fuse(2) })
	step("Write ahead of the end", 1, func() { d.Write(0, full(2)) })
	step("Flush at the end", 1, func() { d.Flush() })
	step("Write without power", 1, func() { d.Write(0, full(3)) })
	step("a wrong Write without power", 1, func() { d.Write(-1, nil) })
	step("Flush without power", 1, func() { d.Flush() })
	step("Crash", 0, func() { d.Crash(nil) })
	step("Write behind it", 1, func() { d.Write(1, full(4)) })
}

// P2.3: the power goes at just the nth changing call, Writes that are refused and Flushes counted as well.
func TestFuseCounts(t *testing.T) {
	for n := 1; n <= 8; n++ {
		d := New(2)
		d.Write(0, full(1))
		d.Flush()
		d.Fuse(n)
		for call := 1; call <= n+2; call++ {
			var got, own api.Errno
			switch call % 3 {
			case 0:
				got = d.Flush()
			case 1:
				got = d.Write(1, full(byte(call)))
			case 2:
				got, own = d.Write(9, nil), api.ErrArg
			}
			if call >= n {
				own = api.ErrDown
			}
			wantErr(t, "a changing call", got, own)
			if d.Down() != (call >= n) {
				t.Errorf("Fuse(%d): behind call %d down is %v", n, call, d.Down())
			}
		}
	}
}

// P2.3: the Write at which the power goes is done, and not sure.
func TestFuseWriteIsDone(t *testing.T) {
	d := New(2)
	d.Fuse(2)
	wantErr(t, "first Write", d.Write(0, full(0x11)), api.OK)
	wantErr(t, "second Write", d.Write(1, full(0x22)), api.ErrDown)
	old := d.Copy()
	d.Crash(full(0xff))
	wantRead(t, d, 0, full(0x11))
	wantRead(t, d, 1, full(0)) // its picks lack
	old.Crash(bytes.Repeat([]byte{0xff}, 2*api.SectorSize))
	wantRead(t, old, 0, full(0x11))
	wantRead(t, old, 1, full(0x22))
}

// P2.3: the Flush at which the power goes is not done.
func TestFuseFlushIsNotDone(t *testing.T) {
	d := New(1)
	d.Write(0, full(0xff))
	d.Fuse(1)
	wantErr(t, "Flush", d.Flush(), api.ErrDown)
	d.Crash(full(0x0f))
	wantRead(t, d, 0, full(0x0f))
}

// P2.3, P2.2: without power nothing is written, nothing made sure, and ErrDown goes ahead of all other errors.
func TestDownChangesNothing(t *testing.T) {
	d := New(2)
	d.Write(0, full(1))
	d.Flush()
	d.Write(0, full(3))
	d.Fuse(1)
	wantErr(t, "Flush at the end", d.Flush(), api.ErrDown)
	wantErr(t, "Write", d.Write(0, full(0xff)), api.ErrDown)
	wantErr(t, "Write of another", d.Write(1, full(0xff)), api.ErrDown)
	wantErr(t, "wrong Write", d.Write(2, nil), api.ErrDown)
	wantErr(t, "Flush", d.Flush(), api.ErrDown)
	for _, i := range []int{0, 1, 2, -1, math.MaxInt} {
		if b, e := d.Read(i); e != api.ErrDown || b != nil {
			t.Errorf("Read(%d) = %x, %v", i, b, e)
		}
	}
	if d.Len() != 2 || !d.Down() {
		t.Error("without power Len or Down is another")
	}
	d.Crash(bytes.Repeat([]byte{0xff}, 2*api.SectorSize))
	wantRead(t, d, 0, full(3))
	wantRead(t, d, 1, full(0))
}

// P2.3: a Write that is refused lets the power go as well, and answers ErrDown.
func TestFuseAtWrongWrite(t *testing.T) {
	for _, b := range [][]byte{nil, full(9)[1:], full(9)} {
		d := New(1)
		d.Fuse(1)
		wantErr(t, "Write", d.Write(1, b), api.ErrDown)
		if !d.Down() {
			t.Error("the power has not gone")
		}
		d.Crash(full(0xff))
		wantRead(t, d, 0, full(0))
	}
}

// P2.3: the last Fuse counts; below 1 none is set; one far off is not met.
func TestFuseAnew(t *testing.T) {
	for _, off := range []int{0, -1, math.MinInt} {
		d := New(1)
		d.Fuse(1)
		d.Fuse(off)
		for range 5 {
			wantErr(t, "Flush", d.Flush(), api.OK)
		}
	}
	d := New(1)
	d.Fuse(1)
	d.Fuse(3)
	wantErr(t, "first", d.Flush(), api.OK)
	d.Fuse(2)
	wantErr(t, "second", d.Flush(), api.OK)
	wantErr(t, "third", d.Flush(), api.ErrDown)
	d = New(1)
	d.Fuse(math.MaxInt)
	for range 100 {
		wantErr(t, "Flush", d.Flush(), api.OK)
	}
}

// P2.3: reads do not bring the end nearer.
func TestFuseNotByRead(t *testing.T) {
	d := New(1)
	d.Fuse(1)
	for range 3 {
		wantRead(t, d, 0, full(0))
		d.Read(5)
	}
	if d.Down() {
		t.Error("a Read has let the power go")
	}
	wantErr(t, "Flush", d.Flush(), api.ErrDown)
}

// P2.3: what Read tells beside an error, and at the ends of the range.
func TestReadWrong(t *testing.T) {
	d := New(3)
	for _, i := range []int{3, -1, api.MaxSectors, math.MaxInt, math.MinInt} {
		if b, e := d.Read(i); e != api.ErrArg || b != nil {
			t.Errorf("Read(%d) = %x, %v", i, b, e)
		}
	}
	for i := range 3 {
		wantRead(t, d, i, full(0))
	}
}

// P2.4: the document's example, and each bit by its pick.
func TestCrashBits(t *testing.T) {
	d := New(1)
	d.Write(0, full(0xff))
	d.Crash([]byte{0x0f})
	want := full(0)
	want[0] = 0x0f
	wantRead(t, d, 0, want)

	old, is, picks := row(api.SectorSize, 7), row(api.SectorSize, 8), row(api.SectorSize, 9)
	d.Write(0, old)
	d.Flush()
	d.Write(0, is)
	d.Crash(picks)
	got, _ := d.Read(0)
	for i := range got {
		for bit := range 8 {
			from := old
			if picks[i]>>bit&1 == 1 {
				from = is
			}
			if got[i]>>bit&1 != from[i]>>bit&1 {
				t.Errorf("byte %d, bit %d is not as the pick says", i, bit)
			}
		}
	}
}

// P2.4: picks go to the sectors that read otherwise, rising, whatever order they were written in;
// a sector that reads what is sure (never written, or written so again) takes none.
func TestCrashPicksInOrder(t *testing.T) {
	d := New(6)
	d.Write(2, full(0x33))
	d.Flush()
	d.Write(5, full(0xff))
	d.Write(2, full(0x33)) // as it was
	d.Write(3, full(0xff))
	d.Write(1, full(0xff))
	d.Write(4, full(0xff))
	d.Write(4, full(0)) // as it was, in the end
	d.Crash(slices.Concat(full(0x01), full(0x02), full(0x04), full(0x08)))
	for i, want := range []byte{0, 0x01, 0x33, 0x02, 0, 0x04} {
		wantRead(t, d, i, full(want))
	}
}

// P2.4: a sector of which one byte reads otherwise takes SectorSize picks all the same.
func TestCrashOneByteTakesAll(t *testing.T) {
	d := New(2)
	one := full(0)
	one[api.SectorSize-1] = 0xff
	d.Write(0, one)
	d.Write(1, full(0xff))
	d.Crash(slices.Concat(full(0x55), full(0x66)))
	one[api.SectorSize-1] = 0x55
	wantRead(t, d, 0, one)
	wantRead(t, d, 1, full(0x66))
}

// P2.4: picks that lack keep the old bits, also where they end within a sector; too many do no harm.
func TestCrashPicksThatLack(t *testing.T) {
	for _, n := range []int{0, 1, 63, 64, 65, 100, 127, 128, 129, 1000} {
		d := New(2)
		d.Write(0, full(0xf0))
		d.Write(1, full(0xf0))
		d.Flush()
		d.Write(0, full(0x0f))
		d.Write(1, full(0x0f))
		d.Crash(bytes.Repeat([]byte{0xff}, n))
		want := bytes.Repeat([]byte{0xf0}, 2*api.SectorSize)
		for i := range min(n, len(want)) {
			want[i] = 0x0f
		}
		if got := contents(t, d); !bytes.Equal(got, want) {
			t.Errorf("%d picks: %x", n, got)
		}
	}
}

// P2.4: behind a crash the power is there, the fuse is unset, and all is sure.
func TestCrashComesBack(t *testing.T) {
	for _, gone := range []bool{false, true} {
		d := New(2)
		d.Write(0, full(0xff))
		if gone {
			d.Fuse(1)
			d.Flush()
		} else {
			d.Fuse(2)
		}
		d.Crash(full(0x0f))
		if d.Down() {
			t.Error("the power is still gone")
		}
		d.Crash(full(0xff)) // nothing is unsure any more
		wantRead(t, d, 0, full(0x0f))
		for i := range 4 {
			wantErr(t, "Write", d.Write(i%2, full(7)), api.OK)
		}
		wantErr(t, "Flush", d.Flush(), api.OK)
	}
}

// P2.4: a fuse that is set while the power is gone does not last behind the crash.
func TestCrashUnsetsFuseSetWhileDown(t *testing.T) {
	d := New(1)
	d.Fuse(1)
	d.Flush()
	d.Fuse(2)
	wantErr(t, "Flush without power", d.Flush(), api.ErrDown)
	d.Crash(nil)
	for range 3 {
		wantErr(t, "Flush", d.Flush(), api.OK)
	}
}

// P2.4: a crash of a disk without sectors, and of one that nothing was written to.
func TestCrashOfNothing(t *testing.T) {
	d := New(0)
	d.Crash(full(0xff))
	if d.Len() != 0 || d.Down() {
		t.Error("a disk without sectors has become another")
	}
	d = New(2)
	d.Crash(full(0xff))
	wantRead(t, d, 0, full(0))
	wantRead(t, d, 1, full(0))
}

// P2.5: a copy is in all like its disk: what it reads, what is sure, the calls, the fuse, the power.
func TestCopyIsLike(t *testing.T) {
	d := New(2)
	d.Write(0, full(0xf0))
	d.Flush()
	d.Write(0, full(0x0f))
	d.Write(1, full(0xff))
	d.Fuse(2)
	c := d.Copy()
	if c.Len() != 2 || c.Calls() != 4 || c.Down() || !bytes.Equal(contents(t, c), contents(t, d)) {
		t.Error("the copy is another one")
	}
	for _, x := range []*Disk{d, c} {
		wantErr(t, "first", x.Write(9, nil), api.ErrArg)
		wantErr(t, "second", x.Flush(), api.ErrDown)
	}
	c = d.Copy()
	if !c.Down() || c.Calls() != 6 {
		t.Errorf("the copy of a disk without power: down %v, %d calls", c.Down(), c.Calls())
	}
	for _, x := range []*Disk{d, c} {
		x.Crash(full(0x3c))
		wantRead(t, x, 0, full(0xf0&^0x3c|0x0f&0x3c))
		wantRead(t, x, 1, full(0))
	}
}

// P2.5: neither sees what is done to the other.
func TestCopyIsItsOwn(t *testing.T) {
	for _, turn := range []bool{false, true} {
		d := New(2)
		d.Write(0, full(1))
		d.Flush()
		d.Write(0, full(2))
		a, b := d, d.Copy()
		if turn {
			a, b = b, a
		}
		a.Write(0, full(0xff))
		a.Write(1, full(0xff))
		a.Flush()
		a.Fuse(1)
		a.Flush()
		if b.Calls() != 3 || b.Down() {
			t.Errorf("down %v, %d calls", b.Down(), b.Calls())
		}
		wantRead(t, b, 0, full(2))
		wantRead(t, b, 1, full(0))
		wantErr(t, "Flush", b.Copy().Flush(), api.OK)
		b.Crash(nil)
		wantRead(t, b, 0, full(1))
		if !a.Down() {
			t.Error("a crash of one has brought the other's power back")
		}
	}
}

// P2.5: a nil disk answers ErrArg and zero values, and never panics.
func TestNilDisk(t *testing.T) {
	var d *Disk
	d.Fuse(1)
	d.Fuse(-1)
	d.Crash(nil)
	d.Crash(full(0xff))
	wantErr(t, "Write", d.Write(0, full(1)), api.ErrArg)
	wantErr(t, "wrong Write", d.Write(-1, nil), api.ErrArg)
	wantErr(t, "Flush", d.Flush(), api.ErrArg)
	if b, e := d.Read(0); b != nil || e != api.ErrArg {
		t.Errorf("Read: %x, %v", b, e)
	}
	if d.Len() != 0 || d.Calls() != 0 || d.Down() || d.Copy() != nil {
		t.Error("a nil disk answers something")
	}
}

// P2.2, P2.3 with R2: bytes that are handed in are neither changed nor kept, those that are told are the caller's own.
func TestMemory(t *testing.T) {
	d := New(2)
	long := row(3*api.SectorSize, 4)
	before := slices.Clone(long)
	b := long[api.SectorSize : 2*api.SectorSize]
	want := slices.Clone(b)
	d.Write(0, b)
	for i := range b {
		b[i] = 0
	}
	wantRead(t, d, 0, want)
	told, _ := d.Read(0)
	for i := range told {
		told[i] = 0xee
	}
	_ = append(told, full(0xee)...)
	wantRead(t, d, 0, want)
	wantRead(t, d, 1, full(0))
	d.Flush()
	told, _ = d.Read(0)
	told[0] ^= 0xff
	d.Write(0, full(0))
	d.Crash(nil)
	wantRead(t, d, 0, want)
	copy(long, before)

	picks := long[:api.SectorSize]
	d.Write(1, full(0xff))
	d.Crash(picks)
	if !bytes.Equal(long, before) {
		t.Error("the picks, or what lies behind them, were changed")
	}
	wantRead(t, d, 1, picks)
}

// P2.4 with R2: picks behind the list's length are not read.
func TestPicksBehindTheLength(t *testing.T) {
	d := New(2)
	d.Write(0, full(0xff))
	d.Write(1, full(0xff))
	picks := bytes.Repeat([]byte{0xff}, 2*api.SectorSize)
	d.Crash(picks[:3])
	want := full(0)
	copy(want, picks[:3])
	wantRead(t, d, 0, want)
	wantRead(t, d, 1, full(0))
}

// P2.6: behind a Flush a crash changes nothing, whatever the picks are.
func TestCrashBehindFlush(t *testing.T) {
	for seed := range uint32(20) {
		d := New(5)
		for i := range 12 {
			d.Write(i*3%5, row(api.SectorSize, seed*100+uint32(i)))
		}
		d.Flush()
		before := contents(t, d)
		for _, picks := range [][]byte{nil, full(0xff), row(5*api.SectorSize, seed)} {
			d.Crash(picks)
			if !bytes.Equal(contents(t, d), before) {
				t.Errorf("seed %d: a crash behind a Flush has changed something", seed)
			}
		}
	}
}

// P2.6: of a sector that was written once since, each bit is the old one or the new one.
func TestCrashOldOrNew(t *testing.T) {
	for seed := range uint32(50) {
		d := New(3)
		var old, is [3][]byte
		for i := range 3 {
			old[i], is[i] = row(api.SectorSize, 11*seed+uint32(i)), row(api.SectorSize, 13*seed+uint32(i)+5)
			d.Write(i, old[i])
		}
		d.Flush()
		for _, i := range []int{2, 0, 1} {
			d.Write(i, is[i])
		}
		d.Crash(row(3*api.SectorSize, seed))
		for i := range 3 {
			got, _ := d.Read(i)
			for j, x := range got {
				if (x^old[i][j])&(x^is[i][j]) != 0 {
					t.Errorf("seed %d, sector %d, byte %d: %02x of %02x and %02x", seed, i, j, x, old[i][j], is[i][j])
				}
			}
		}
	}
}
