package wal

import (
	"bytes"
	"encoding/binary"
	"hash/crc32"
	"math"
	"slices"
	"testing"

	"chandler/api"
	"chandler/disk"
)

// fill tells n bytes, all of them x.
func fill(n int, x byte) []byte {
	return bytes.Repeat([]byte{x}, n)
}

// row tells n bytes that look like none in particular, the same ones at every run.
func row(n int, seed uint32) []byte {
	b := make([]byte, n)
	for i := range b {
		seed = seed*1664525 + 1013904223
		b[i] = byte(seed >> 24)
	}
	return b
}

// withSum tells the head and the bytes of a record by the chapter's words, of any length field, up to a sector's end.
func withSum(length uint32, b []byte) []byte {
	out := binary.BigEndian.AppendUint32(nil, length)
	out = binary.BigEndian.AppendUint32(out, crc32.ChecksumIEEE(slices.Concat(out, b)))
	out = append(out, b...)
	for len(out)%api.SectorSize != 0 {
		out = append(out, 0)
	}
	return out
}

// sectorsOf tells the sectors of a record by the chapter's words.
func sectorsOf(b []byte) []byte {
	return withSum(uint32(len(b)), b)
}

// marking tells the sector whose bits, one by one, are those of text, 0 behind it.
func marking(text string) []byte {
	b := fill(api.SectorSize, 0)
	for i, c := range []byte(text) {
		if c == '1' {
			b[i/8] += 128 >> (i % 8)
		}
	}
	return b
}

// put makes the sectors from at on read b, surely.
func put(t *testing.T, d *disk.Disk, at int, b []byte) {
	t.Helper()
	for part := range slices.Chunk(b, api.SectorSize) {
		if e := d.Write(at, part); e != api.OK {
			t.Fatalf("writing sector %d by hand: %v", at, e)
		}
		at++
	}
	d.Flush()
}

// made tells a disk of size sectors, all bytes x but for an area made by hand from from on: its marks, its parts.
func made(t *testing.T, size, from int, x byte, marks string, parts ...[]byte) *disk.Disk {
	t.Helper()
	d := disk.New(size)
	put(t, d, 0, fill(size*api.SectorSize, x))
	put(t, d, from, slices.Concat(marking(marks), slices.Concat(parts...)))
	return d
}

// contents tells what all sectors of d read, one behind the other.
func contents(t *testing.T, d *disk.Disk) []byte {
	t.Helper()
	var all []byte
	for i := range d.Len() {
		b, e := d.Read(i)
		if e != api.OK {
			t.Fatalf("sector %d: %v", i, e)
		}
		all = append(all, b...)
	}
	return all
}

// wantErr fails, if got is not want.
func wantErr(t *testing.T, what string, got, want api.Errno) {
	t.Helper()
	if got != want {
		t.Errorf("%s: %v, want %v", what, got, want)
	}
}

// wantOpen opens an area and fails, if it does not tell just the records want and so many sectors behind them.
func wantOpen(t *testing.T, d *disk.Disk, from, to, free int, want ...[]byte) *Log {
	t.Helper()
	l, got, e := Open(d, from, to)
	if e != api.OK || l == nil {
		t.Fatalf("Open(%d, %d): %v, %v", from, to, l, e)
	}
	if !slices.EqualFunc(got, want, bytes.Equal) {
		t.Fatalf("Open(%d, %d): %d records %x, want %d %x", from, to, len(got), got, len(want), want)
	}
	wantLog(t, l, len(want), free)
	return l
}

// wantLog fails, if l does not tell so many records and so many sectors behind them.
func wantLog(t *testing.T, l *Log, count, free int) {
	t.Helper()
	if l.Len() != count || l.Free() != free {
		t.Fatalf("Len %d, Free %d; want %d, %d", l.Len(), l.Free(), count, free)
	}
}

// wantNone fails, if Open tells another error than want, or something beside it.
func wantNone(t *testing.T, what string, d *disk.Disk, from, to int, want api.Errno) {
	t.Helper()
	if l, got, e := Open(d, from, to); l != nil || got != nil || e != want {
		t.Errorf("%s: Open(%d, %d) = %v, %x, %v; want %v", what, from, to, l, got, e, want)
	}
}

// P3.1: the document's example, the ends of the range, and beyond them.
func TestNeedKnown(t *testing.T) {
	for n, want := range map[int]int{
		math.MinInt: 0, -65: 0, -64: 0, -9: 0, -8: 0, -1: 0,
		0: 1, 1: 1, 55: 1, 56: 1, 57: 2, 64: 2, 119: 2, 120: 2, 121: 3, 184: 3, 185: 4,
		api.MaxRecord - 1: 129, api.MaxRecord: 129,
		api.MaxRecord + 1: 0, 2 * api.MaxRecord: 0, math.MaxInt - 70: 0, math.MaxInt: 0,
	} {
		if got := Need(n); got != want {
			t.Errorf("Need(%d) = %d, want %d", n, got, want)
		}
	}
}

// P3.1: each length, by filling up sectors.
func TestNeedWhole(t *testing.T) {
	for n := range api.MaxRecord + 1 {
		if got, want := Need(n), len(sectorsOf(make([]byte, n)))/api.SectorSize; got != want {
			t.Errorf("Need(%d) = %d, want %d", n, got, want)
		}
	}
}

// areasWrong tells pairs of from and to that are no area of a disk of 12 sectors.
func areasWrong() [][2]int {
	return [][2]int{
		{-1, 3}, {-1, 12}, {math.MinInt, 5}, {math.MinInt, math.MaxInt}, {-3, -1}, {-1, 0}, {-1, -1},
		{0, 0}, {3, 3}, {4, 3}, {12, 12}, {12, 0}, {5, -5}, {5, math.MinInt},
		{0, 13}, {11, 13}, {12, 13}, {13, 14}, {13, 12}, {0, api.MaxSectors}, {0, math.MaxInt}, {math.MaxInt, math.MaxInt}, {math.MaxInt, math.MinInt},
	}
}

// P3.2: what is no area: ErrArg, and nothing is told or changed; a nil disk has none.
func TestAreaWrong(t *testing.T) {
	d := made(t, 12, 0, 0xff, "")
	before, calls := contents(t, d), d.Calls()
	for _, x := range areasWrong() {
		wantErr(t, "Format", Format(d, x[0], x[1]), api.ErrArg)
		wantNone(t, "no area", d, x[0], x[1], api.ErrArg)
		wantErr(t, "Format of a nil disk", Format(nil, x[0], x[1]), api.ErrArg)
		wantNone(t, "nil disk", nil, x[0], x[1], api.ErrArg)
	}
	for _, x := range [][2]int{{0, 1}, {0, 12}, {3, 7}} {
		wantErr(t, "Format of a nil disk", Format(nil, x[0], x[1]), api.ErrArg)
		wantNone(t, "nil disk", nil, x[0], x[1], api.ErrArg)
	}
	wantErr(t, "Format of no sectors", Format(disk.New(0), 0, 1), api.ErrArg)
	wantNone(t, "no sectors", disk.New(0), 0, 1, api.ErrArg)
	if d.Calls() != calls || !bytes.Equal(contents(t, d), before) {
		t.Error("the disk was changed")
	}
}

// P3.2: Format writes the marks and nothing else, and makes them sure; the area has no records then.
func TestFormat(t *testing.T) {
	for _, x := range [][2]int{{0, 1}, {0, 2}, {0, 12}, {3, 7}, {11, 12}, {10, 12}} {
		d := disk.New(12)
		put(t, d, 0, fill(12*api.SectorSize, 0xff))
		want, calls := contents(t, d), d.Calls()
		copy(want[x[0]*api.SectorSize:], fill(api.SectorSize, 0))
		wantErr(t, "Format", Format(d, x[0], x[1]), api.OK)
		if d.Calls() != calls+2 {
			t.Errorf("%v: %d calls", x, d.Calls()-calls)
		}
		d.Crash(nil)
		if !bytes.Equal(contents(t, d), want) {
			t.Errorf("%v: other sectors than the marks, or not sure", x)
		}
		wantOpen(t, d, x[0], x[1], x[1]-x[0]-1)
	}
}

// P3.2: an area that had records has none behind Format, and takes others.
func TestFormatAnew(t *testing.T) {
	d := made(t, 9, 1, 0xaa, "11", sectorsOf(row(90, 1)), sectorsOf(nil))
	wantOpen(t, d, 1, 8, 3, row(90, 1), nil)
	wantErr(t, "Format", Format(d, 1, 8), api.OK)
	l := wantOpen(t, d, 1, 8, 6)
	wantErr(t, "Append", l.Append(row(5, 2)), api.OK)
	wantOpen(t, d, 1, 8, 5, row(5, 2))
}

// P3.2: disk's errors at the write and at the flush; the marks are the old ones or the new ones; ErrArg comes first.
func TestFormatDiskErrors(t *testing.T) {
	for fuse := 1; fuse <= 2; fuse++ {
		for _, kept := range []byte{0, 0xff} {
			d := made(t, 4, 1, 0x55, "1", sectorsOf(nil))
			calls := d.Calls()
			d.Fuse(fuse)
			wantErr(t, "Format", Format(d, 1, 4), api.ErrDown)
			if d.Calls() != calls+fuse {
				t.Errorf("fuse %d: %d calls", fuse, d.Calls()-calls)
			}
			wantErr(t, "Format of no area", Format(d, 1, 5), api.ErrArg)
			wantErr(t, "Format without power", Format(d, 1, 4), api.ErrDown)
			d.Crash(fill(api.SectorSize, kept))
			if kept == 0 {
				wantOpen(t, d, 1, 4, 1, nil)
			} else {
				wantOpen(t, d, 1, 4, 2)
			}
		}
	}
}

// P3.2: Open tells what was laid there by hand, and changes nothing; what stands behind does not matter.
func TestOpenMade(t *testing.T) {
	for _, c := range []struct {
		marks   string
		records [][]byte
		free    int
	}{
		{"", nil, 16},
		{"1", [][]byte{nil}, 15},
		{"1", [][]byte{{0}}, 15},
		{"1", [][]byte{row(56, 1)}, 15},
		{"1", [][]byte{row(57, 1)}, 14},
		{"111", [][]byte{row(57, 1), nil, row(248, 2)}, 9},
		{"11", [][]byte{fill(120, 0), fill(121, 0xff)}, 11},
		{"111111111", [][]byte{{1}, {2}, {3}, {4}, {5}, {6}, {7}, {8}, {9}}, 7},
		{"1", [][]byte{row(16*64-8, 3)}, 0},
		{"1111111111111111", slices.Repeat([][]byte{row(56, 4)}, 16), 0},
	} {
		var parts [][]byte
		for _, b := range c.records {
			parts = append(parts, sectorsOf(b))
		}
		d := made(t, 20, 2, 0xff, c.marks, parts...)
		before, calls := contents(t, d), d.Calls()
		wantOpen(t, d, 2, 19, c.free, c.records...)
		wantOpen(t, d, 2, 19, c.free, c.records...)
		if d.Calls() != calls || !bytes.Equal(contents(t, d), before) {
			t.Errorf("marks %s: Open has changed the disk", c.marks)
		}
	}
}

// P3.2: the longest record, and an area as large as a disk.
func TestOpenLongest(t *testing.T) {
	long := row(api.MaxRecord, 9)
	d := made(t, 131, 0, 0xff, "1", sectorsOf(long))
	wantOpen(t, d, 0, 131, 1, long)
	wantOpen(t, d, 0, 130, 0, long)
	wantNone(t, "a sector lacks", d, 0, 129, api.ErrForm)
	d = disk.New(api.MaxSectors)
	wantOpen(t, d, 0, api.MaxSectors, api.MaxSectors-1)
}

// P3.2: an area of one sector is its marks, and has no room; what is marked there is none.
func TestOneSector(t *testing.T) {
	d := made(t, 3, 1, 0xff, "")
	l := wantOpen(t, d, 1, 2, 0)
	for _, b := range [][]byte{nil, {1}, row(56, 1), row(api.MaxRecord, 1)} {
		wantErr(t, "Append", l.Append(b), api.ErrRoom)
	}
	wantErr(t, "Append", l.Append(row(api.MaxRecord+1, 1)), api.ErrLong)
	wantLog(t, l, 0, 0)
	for _, marks := range []string{"1", "11", "1000001"} {
		put(t, d, 1, marking(marks))
		put(t, d, 2, sectorsOf(nil))
		wantNone(t, "a mark without a record", d, 1, 2, api.ErrForm)
	}
	put(t, d, 1, marking("0111111111"))
	wantOpen(t, d, 1, 2, 0)
	wantNone(t, "a mark without a record at the disk's end", made(t, 3, 2, 0, "1"), 2, 3, api.ErrForm)
}

// P3.2: bytes that are none of a log's: a length above MaxRecord, with the right sum and all the room there may be.
func TestOpenTooLong(t *testing.T) {
	for _, n := range []uint32{api.MaxRecord + 1, api.MaxRecord + 64, 1 << 16, 1 << 24, 1 << 31, math.MaxUint32} {
		d := made(t, 300, 0, 0, "1", withSum(n, row(int(min(n, 10000)), 3)))
		wantNone(t, "too long", d, 0, 300, api.ErrForm)
	}
}

// P3.2: a record that is not whole within to, as the first one and behind others; to itself is not in the area.
func TestOpenNotWhole(t *testing.T) {
	first, second := row(57, 1), row(121, 2)
	d := made(t, 12, 3, 0, "11", sectorsOf(first), sectorsOf(second))
	wantOpen(t, d, 3, 10, 1, first, second)
	wantOpen(t, d, 3, 9, 0, first, second)
	for to := 4; to < 9; to++ {
		wantNone(t, "not whole", d, 3, to, api.ErrForm)
	}
	put(t, d, 3, marking("1"))
	wantOpen(t, d, 3, 6, 0, first)
	wantNone(t, "not whole", d, 3, 5, api.ErrForm)
	put(t, d, 3, marking("111"))
	put(t, d, 9, fill(3*api.SectorSize, 0xff))
	wantNone(t, "no third one", d, 3, 9, api.ErrForm)
	wantNone(t, "no third one", d, 3, 12, api.ErrForm)
	d = made(t, 9, 3, 0, "111", sectorsOf(first), sectorsOf(second))
	wantNone(t, "no third one at the disk's end", d, 3, 9, api.ErrForm)
	wantNone(t, "no second one at the disk's end", made(t, 8, 3, 0, "11", sectorsOf(first), sectorsOf(second)[:2*64]), 3, 8, api.ErrForm)
}

// P3.2: a record of which any bit is another: in its length, its sum, its bytes, behind them up to the sector's end.
func TestOpenEachBit(t *testing.T) {
	for _, n := range []int{0, 1, 20, 55, 56, 57, 120} {
		good := row(n, uint32(n))
		whole := sectorsOf(good)
		for i := range 8 * len(whole) {
			bad := slices.Clone(whole)
			bad[i/8] ^= 1 << (i % 8)
			wantNone(t, "a bit turned", made(t, 9, 1, 0, "1", bad), 1, 8, api.ErrForm)
			d := made(t, 9, 1, 0, "111", sectorsOf(row(60, 5)), bad, sectorsOf(nil))
			wantNone(t, "a bit turned behind a good one", d, 1, 9, api.ErrForm)
			put(t, d, 1, marking("101"))
			wantOpen(t, d, 1, 9, 5, row(60, 5))
		}
	}
}

// P3.2: sums that are nearly right: of the bytes alone, of other lengths, with the sector's end, turned, the lowest byte first.
func TestOpenOtherSums(t *testing.T) {
	b := row(30, 8)
	head := []byte{0, 0, 0, 30}
	good := crc32.ChecksumIEEE(slices.Concat(head, b))
	whole := sectorsOf(b)
	rest := whole[8:]
	for i, sum := range []uint32{
		0, crc32.ChecksumIEEE(b), crc32.ChecksumIEEE(slices.Concat(b, head)), crc32.ChecksumIEEE(slices.Concat(head, rest)),
		crc32.ChecksumIEEE(slices.Concat([]byte{30, 0, 0, 0}, b)), ^good, good + 1, good<<24 | good>>24 | good<<8&0xff0000 | good>>8&0xff00,
	} {
		bad := slices.Concat(head, binary.BigEndian.AppendUint32(nil, sum), rest)
		if bytes.Equal(bad, whole) {
			t.Fatalf("sum %d is the right one", i)
		}
		wantNone(t, "another sum", made(t, 4, 0, 0, "1", bad), 0, 4, api.ErrForm)
	}
	// A sector of zeros is a record of no bytes only with its sum.
	wantNone(t, "zeros", made(t, 4, 0, 0, "1"), 0, 4, api.ErrForm)
	wantNone(t, "ones", made(t, 4, 0, 0xff, "1"), 0, 4, api.ErrForm)
}

// P3.2: marks behind the first that is not set do not count, and what stands there is not looked at, whatever it is.
func TestMarksBehind(t *testing.T) {
	a, b := row(10, 1), row(80, 2)
	for _, c := range []struct {
		marks string
		count int
	}{{"01", 0}, {"011111111111", 0}, {"101", 1}, {"1011", 1}, {"1000000001", 1}, {"11011", 2}, {"110", 2}} {
		want := [][]byte{a, b}[:c.count]
		free := []int{9, 8, 6}[c.count]
		for _, behind := range [][]byte{sectorsOf(row(20, 3)), fill(64, 0xff), withSum(api.MaxRecord+1, row(48, 3)), fill(64, 0)} {
			d := made(t, 12, 1, 0xff, c.marks, sectorsOf(a), sectorsOf(b), behind)
			wantOpen(t, d, 1, 11, free, want...)
		}
	}
	for skip := range 8 * api.SectorSize {
		marks := fill(8*api.SectorSize, '1')
		marks[skip] = '0'
		d := made(t, 600, 1, 0, string(marks), slices.Repeat(sectorsOf([]byte{7}), 512))
		wantOpen(t, d, 1, 600, 598-skip, slices.Repeat([][]byte{{7}}, skip)...)
	}
}

// P3.2: without power: ErrDown, ahead of ErrForm, behind ErrArg.
func TestOpenDown(t *testing.T) {
	d := made(t, 4, 0, 0xff, "1")
	wantNone(t, "with power", d, 0, 4, api.ErrForm)
	d.Fuse(1)
	d.Flush()
	wantNone(t, "without power", d, 0, 4, api.ErrDown)
	wantNone(t, "without power, no area", d, 0, 5, api.ErrArg)
	wantNone(t, "without power, no area", d, 2, 2, api.ErrArg)
	d.Crash(nil)
	wantNone(t, "with power again", d, 0, 4, api.ErrForm)
}

// P3.3: what Append lays down, sector by sector, by the chapter's words; nothing outside of the area.
func TestAppendSectors(t *testing.T) {
	d := made(t, 20, 2, 0xee, "")
	l := wantOpen(t, d, 2, 19, 16)
	want := contents(t, d)
	at, marks := 3, ""
	for i, n := range []int{57, 0, 56, 1, 248, 120} {
		b := row(n, uint32(i))
		calls := d.Calls()
		wantErr(t, "Append", l.Append(b), api.OK)
		whole := sectorsOf(b)
		copy(want[at*api.SectorSize:], whole)
		marks += "1"
		copy(want[2*api.SectorSize:], marking(marks))
		at += len(whole) / api.SectorSize
		if !bytes.Equal(contents(t, d), want) {
			t.Errorf("record %d: the sectors read otherwise", i)
		}
		if got, need := d.Calls()-calls, len(whole)/api.SectorSize+3; got != need {
			t.Errorf("record %d: %d calls, want %d", i, got, need)
		}
		wantLog(t, l, i+1, 19-at)
		d.Crash(nil)
		if !bytes.Equal(contents(t, d), want) {
			t.Errorf("record %d: not sure", i)
		}
	}
	wantOpen(t, d, 2, 19, 19-at, row(57, 0), row(0, 1), row(56, 2), row(1, 3), row(248, 4), row(120, 5))
}

// P3.3: a row of records of all kinds of lengths, the log opened anew between them or not.
func TestAppendOpen(t *testing.T) {
	for seed := range uint32(40) {
		d := disk.New(200)
		put(t, d, 0, row(200*api.SectorSize, seed))
		wantErr(t, "Format", Format(d, 5, 190), api.OK)
		l := wantOpen(t, d, 5, 190, 184)
		var records [][]byte
		free := 184
		for i := range uint32(60) {
			b := row(int(i*i*seed)%(90+int(seed)*9), i+seed)
			need := len(sectorsOf(b)) / api.SectorSize
			if need > free {
				wantErr(t, "Append", l.Append(b), api.ErrRoom)
				continue
			}
			wantErr(t, "Append", l.Append(b), api.OK)
			records = append(records, b)
			free -= need
			wantLog(t, l, len(records), free)
			if i*seed%3 == 1 {
				l = wantOpen(t, d, 5, 190, free, records...)
			}
		}
		wantOpen(t, d, 5, 190, free, records...)
	}
}

// P3.3: a record that just fits, and one that does not; a refused one changes nothing, and a shorter one goes in behind it.
func TestAppendRoom(t *testing.T) {
	for room := 1; room < 6; room++ {
		fits := room*api.SectorSize - 8
		d := made(t, 10, 1, 0xff, "")
		l := wantOpen(t, d, 1, 2+room, room)
		before, calls := contents(t, d), d.Calls()
		for _, n := range []int{fits + 1, fits + 64, fits + 65, api.MaxRecord} {
			wantErr(t, "Append of too much", l.Append(row(n, 1)), api.ErrRoom)
		}
		wantErr(t, "Append of too long", l.Append(row(api.MaxRecord+1, 1)), api.ErrLong)
		if d.Calls() != calls || !bytes.Equal(contents(t, d), before) {
			t.Errorf("room %d: a refused Append has changed the disk", room)
		}
		wantLog(t, l, 0, room)
		wantErr(t, "Append of what fits", l.Append(row(fits, 2)), api.OK)
		wantLog(t, l, 1, 0)
		wantErr(t, "Append to a full area", l.Append(nil), api.ErrRoom)
		wantErr(t, "Append of too long to a full area", l.Append(row(api.MaxRecord+1, 1)), api.ErrLong)
		l = wantOpen(t, d, 1, 2+room, 0, row(fits, 2))
		wantErr(t, "Append to a full area", l.Append(nil), api.ErrRoom)
	}
}

// P3.3: the longest record, and one byte more, also where there is room for it.
func TestAppendLongest(t *testing.T) {
	d := made(t, 300, 0, 0, "")
	l := wantOpen(t, d, 0, 300, 299)
	for _, n := range []int{api.MaxRecord + 1, api.MaxRecord + 64, 3 * api.MaxRecord} {
		wantErr(t, "Append of too long", l.Append(row(n, 1)), api.ErrLong)
	}
	wantErr(t, "Append", l.Append(row(api.MaxRecord, 2)), api.OK)
	wantErr(t, "Append", l.Append(row(api.MaxRecord, 3)), api.OK)
	wantErr(t, "Append", l.Append(row(api.MaxRecord, 4)), api.ErrRoom)
	wantOpen(t, d, 0, 300, 41, row(api.MaxRecord, 2), row(api.MaxRecord, 3))
}

// P3.2, P3.3: as many records as there are marks, and one more, in an area that has sectors left.
func TestAsManyAsMarks(t *testing.T) {
	d := disk.New(600)
	Format(d, 10, 530)
	l := wantOpen(t, d, 10, 530, 519)
	var want [][]byte
	for i := range 8 * api.SectorSize {
		b := row(i%57, uint32(i))
		wantErr(t, "Append", l.Append(b), api.OK)
		want = append(want, b)
	}
	for range 2 {
		calls := d.Calls()
		wantLog(t, l, 512, 7)
		wantErr(t, "one more", l.Append(nil), api.ErrRoom)
		wantErr(t, "one more", l.Append(row(9, 9)), api.ErrRoom)
		wantErr(t, "one more, too long", l.Append(row(api.MaxRecord+1, 9)), api.ErrLong)
		if d.Calls() != calls {
			t.Error("a refused Append has written")
		}
		l = wantOpen(t, d, 10, 530, 7, want...)
	}
	if marks, _ := d.Read(10); !bytes.Equal(marks, fill(api.SectorSize, 0xff)) {
		t.Errorf("marks %x", marks)
	}
}

// P3.3: the marks are written as Open found them or the last Append wrote them, whatever stands there by then;
// those behind the first that is not set stay.
func TestAppendMarks(t *testing.T) {
	d := made(t, 12, 1, 0, "10010000001", sectorsOf(row(9, 1)))
	l := wantOpen(t, d, 1, 12, 9, row(9, 1))
	for i, want := range []string{"11010000001", "11110000001", "11110000001", "11111000001"} {
		put(t, d, 1, fill(api.SectorSize, byte(0x5a+i)))
		wantErr(t, "Append", l.Append(row(3, 2)), api.OK)
		if got, _ := d.Read(1); !bytes.Equal(got, marking(want)) {
			t.Errorf("marks %x, want %s", got, want)
		}
		wantLog(t, l, i+2, 8-i)
	}
}

// P3.3: disk's errors at each write and flush of an Append: as many calls as up to it, and of what was written all or nothing is kept.
// The power goes behind a Write and ahead of a Flush: so what each crash leaves tells in which order they were called.
func TestAppendDiskErrors(t *testing.T) {
	for _, n := range []int{0, 56, 57, 300} {
		need := len(sectorsOf(row(n, 2))) / api.SectorSize
		for fuse := 1; fuse <= need+3; fuse++ {
			for _, kept := range []byte{0, 0xff} {
				d := made(t, 12, 1, 0xee, "1", sectorsOf(row(9, 1)))
				l := wantOpen(t, d, 1, 12, 9, row(9, 1))
				want, calls := contents(t, d), d.Calls()
				d.Fuse(fuse)
				wantErr(t, "Append", l.Append(row(n, 2)), api.ErrDown)
				if d.Calls() != calls+fuse {
					t.Errorf("%d bytes, fuse %d: %d calls", n, fuse, d.Calls()-calls)
				}
				wantLog(t, l, 1, 9)
				d.Crash(fill(12*api.SectorSize, kept))
				done := min(fuse, need)
				if fuse > need+1 || kept == 0xff {
					copy(want[3*api.SectorSize:], sectorsOf(row(n, 2))[:done*api.SectorSize])
				}
				marked := fuse > need+1 && kept == 0xff
				if marked {
					copy(want[api.SectorSize:], marking("11"))
				}
				if !bytes.Equal(contents(t, d), want) {
					t.Errorf("%d bytes, fuse %d, kept %x: the sectors read otherwise", n, fuse, kept)
				}
				if marked {
					wantOpen(t, d, 1, 12, 9-need, row(9, 1), row(n, 2))
				} else {
					wantOpen(t, d, 1, 12, 9, row(9, 1))
				}
			}
		}
	}
}

// P3.3: behind an Append that the disk refused, the log refuses: ErrLong and ErrRoom first, then ErrState, with or without power; it writes nothing.
func TestAppendBehindFailure(t *testing.T) {
	for fuse := 1; fuse <= 4; fuse++ {
		d := made(t, 6, 1, 0, "1", sectorsOf(row(9, 1)))
		l := wantOpen(t, d, 1, 6, 3, row(9, 1))
		other := wantOpen(t, d, 1, 6, 3, row(9, 1))
		d.Fuse(fuse)
		wantErr(t, "Append", l.Append(row(4, 2)), api.ErrDown)
		for range 2 {
			before := d.Calls()
			wantErr(t, "too long", l.Append(row(api.MaxRecord+1, 2)), api.ErrLong)
			wantErr(t, "no room", l.Append(row(3*64-7, 2)), api.ErrRoom)
			wantErr(t, "just room", l.Append(row(3*64-8, 2)), api.ErrState)
			wantErr(t, "the same one", l.Append(row(4, 2)), api.ErrState)
			wantErr(t, "none", l.Append(nil), api.ErrState)
			wantLog(t, l, 1, 3)
			if d.Calls() != before {
				t.Errorf("fuse %d: a log that failed has written", fuse)
			}
			d.Crash(nil)
		}
		wantErr(t, "a log that did not fail", other.Append(row(5, 3)), api.OK)
		wantErr(t, "the log that failed", l.Append(row(4, 2)), api.ErrState)
		wantOpen(t, d, 1, 6, 2, row(9, 1), row(5, 3))
	}
}

// P3.3: an Append that is refused for its length or for room does not fail the log; one without power does.
func TestFailureIsTheDisks(t *testing.T) {
	d := made(t, 6, 1, 0, "")
	l := wantOpen(t, d, 1, 6, 4)
	wantErr(t, "too long", l.Append(row(api.MaxRecord+1, 2)), api.ErrLong)
	wantErr(t, "no room", l.Append(row(4*64, 2)), api.ErrRoom)
	wantErr(t, "Append", l.Append(row(4, 2)), api.OK)
	d.Fuse(1)
	d.Flush()
	calls := d.Calls()
	wantErr(t, "too long without power", l.Append(row(api.MaxRecord+1, 2)), api.ErrLong)
	wantErr(t, "no room without power", l.Append(row(4*64, 2)), api.ErrRoom)
	if d.Calls() != calls {
		t.Error("a refused Append has written")
	}
	d.Crash(nil)
	wantErr(t, "Append", l.Append(row(5, 2)), api.OK)
	d.Fuse(1)
	d.Flush()
	wantErr(t, "Append without power", l.Append(row(6, 2)), api.ErrDown)
	d.Crash(nil)
	wantErr(t, "Append behind it", l.Append(row(6, 2)), api.ErrState)
	wantOpen(t, d, 1, 6, 2, row(4, 2), row(5, 2))
}

// P3.3: two areas side by side keep to themselves.
func TestTwoAreas(t *testing.T) {
	d := made(t, 10, 0, 0xff, "")
	Format(d, 5, 10)
	a, b := wantOpen(t, d, 0, 5, 4), wantOpen(t, d, 5, 10, 4)
	for i := range uint32(4) {
		wantErr(t, "Append", a.Append(row(50, i)), api.OK)
		wantErr(t, "Append", b.Append(row(50, i+10)), api.OK)
	}
	wantErr(t, "Append", a.Append(nil), api.ErrRoom)
	wantErr(t, "Append", b.Append(nil), api.ErrRoom)
	wantOpen(t, d, 0, 5, 0, row(50, 0), row(50, 1), row(50, 2), row(50, 3))
	Format(d, 0, 5)
	wantOpen(t, d, 5, 10, 0, row(50, 10), row(50, 11), row(50, 12), row(50, 13))
}

// P3.3: a nil log, and one that was not opened.
func TestNilLog(t *testing.T) {
	var none *Log
	for _, b := range [][]byte{nil, {1}, row(api.MaxRecord, 1), row(api.MaxRecord+1, 1)} {
		wantErr(t, "Append", none.Append(b), api.ErrArg)
	}
	wantLog(t, none, 0, 0)
	var zero Log
	wantErr(t, "Append", zero.Append(nil), api.ErrRoom)
	wantErr(t, "Append", zero.Append(row(api.MaxRecord+1, 1)), api.ErrLong)
	wantLog(t, &zero, 0, 0)
}

// P3.2, P3.3 with R2: bytes handed in are neither changed nor kept, nor is looked behind their length; records told are the caller's own.
func TestMemory(t *testing.T) {
	d := made(t, 12, 1, 0, "")
	l := wantOpen(t, d, 1, 12, 10)
	long := row(200, 1)
	before := slices.Clone(long)
	wantErr(t, "Append", l.Append(long[20:60]), api.OK)
	wantErr(t, "Append", l.Append(long[:100]), api.OK)
	wantErr(t, "Append", l.Append(long[100:100]), api.OK)
	if !bytes.Equal(long, before) {
		t.Error("the bytes, or what lies behind them, were changed")
	}
	copy(long, fill(200, 0xee))
	want := [][]byte{before[20:60], before[:100], nil}
	wantOpen(t, d, 1, 12, 6, want...)
	m, got, _ := Open(d, 1, 12)
	for i, b := range got {
		copy(b, fill(len(b), 0xdd))
		for range 100 {
			b = append(b, 0xcc)
		}
		for j, other := range got {
			if j > i && !bytes.Equal(other, want[j]) {
				t.Errorf("record %d shares memory with record %d", i, j)
			}
		}
	}
	wantErr(t, "Append", m.Append(row(3, 4)), api.OK)
	wantOpen(t, d, 1, 12, 5, append(want, row(3, 4))...)
}
