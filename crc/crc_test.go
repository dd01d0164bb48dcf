package crc

import (
	"bytes"
	"hash/crc32"
	"math/bits"
	"slices"
	"testing"
)

// row tells n bytes that look like none in particular, the same ones at every run.
func row(n int, seed uint32) []byte {
	b := make([]byte, n)
	for i := range b {
		seed = seed*1664525 + 1013904223
		b[i] = byte(seed >> 24)
	}
	return b
}

// slowSum tells the CRC-32 bit by bit, without a table.
func slowSum(b []byte) uint32 {
	rest := uint32(0xffffffff)
	for _, c := range b {
		for bit := range 8 {
			odd := (rest ^ uint32(c>>bit)) & 1
			rest >>= 1
			if odd == 1 {
				rest ^= 0xedb88320
			}
		}
	}
	return rest ^ 0xffffffff
}

// P1.1: known places of the table, those of a single bit and the last among them.
func TestTableKnown(t *testing.T) {
	table := Table()
	for b, want := range map[int]uint32{
		0: 0, 1: 0x77073096, 2: 0xee0e612c, 3: 0x990951ba, 4: 0x076dc419, 8: 0x0edb8832,
		16: 0x1db71064, 32: 0x3b6e20c8, 64: 0x76dc4190, 128: 0xedb88320, 255: 0x2d02ef8d,
	} {
		if table[b] != want {
			t.Errorf("table[%d] = %08x, want %08x", b, table[b], want)
		}
	}
}

// P1.1: every place, by the document's words.
func TestTableWhole(t *testing.T) {
	table := Table()
	for b, got := range table {
		want := uint32(b)
		for range 8 {
			half, left := want/2, want%2
			want = half ^ left*0xedb88320
		}
		if got != want {
			t.Errorf("table[%d] = %08x, want %08x", b, got, want)
		}
	}
	if table != *crc32.IEEETable {
		t.Error("not the library's table")
	}
}

// P1.1 with R2: each table is the caller's own.
func TestTableOwn(t *testing.T) {
	first := Table()
	for i := range first {
		first[i] = 7
	}
	if Table() != *crc32.IEEETable || Sum([]byte("123456789")) != 0xcbf43926 {
		t.Error("a table that was changed is seen in later answers")
	}
}

// P1.2: the document's examples, no bytes at all, and bytes at the ends of their range.
func TestSumKnown(t *testing.T) {
	for _, c := range []struct {
		text string
		want uint32
	}{
		{"", 0},
		{"123456789", 0xcbf43926},
		{"\x00", 0xd202ef8d},
		{"\xff", 0xff000000},
		{"\x00\x00\x00\x00", 0x2144df1c},
		{"\xff\xff\xff\xff", 0xffffffff},
		{"a", 0xe8b7be43},
		{"abc", 0x352441c2},
		{"message digest", 0x20159d7f},
		{"The quick brown fox jumps over the lazy dog", 0x414fa339},
	} {
		if got := Sum([]byte(c.text)); got != c.want {
			t.Errorf("Sum(%q) = %08x, want %08x", c.text, got, c.want)
		}
	}
	if Sum(nil) != 0 {
		t.Error("Sum(nil) is not 0")
	}
}

// P1.2: each single byte, each length up to some sectors, and a long row.
func TestSumOfRows(t *testing.T) {
	for b := range 256 {
		one := []byte{byte(b)}
		if got, want := Sum(one), slowSum(one); got != want {
			t.Errorf("Sum(%x) = %08x, want %08x", one, got, want)
		}
	}
	for n := range 300 {
		b := row(n, uint32(n))
		if got, want := Sum(b), slowSum(b); got != want || got != crc32.ChecksumIEEE(b) {
			t.Errorf("Sum of %d bytes = %08x, want %08x", n, got, want)
		}
	}
	long := row(1<<20, 1)
	if got, want := Sum(long), crc32.ChecksumIEEE(long); got != want {
		t.Errorf("Sum of %d bytes = %08x, want %08x", len(long), got, want)
	}
}

// P1.2: More goes on from any number at all, also without bytes.
func TestMoreFromAnySum(t *testing.T) {
	for _, sum := range []uint32{0, 1, 0x7fffffff, 0x80000000, 0xcbf43926, 0xfffffffe, 0xffffffff} {
		if More(sum, nil) != sum || More(sum, []byte{}) != sum {
			t.Errorf("More(%08x, none) is another sum", sum)
		}
		for _, n := range []int{1, 2, 3, 4, 5, 64, 255} {
			b := row(n, sum)
			if got, want := More(sum, b), crc32.Update(sum, crc32.IEEETable, b); got != want {
				t.Errorf("More(%08x, %d bytes) = %08x, want %08x", sum, n, got, want)
			}
		}
	}
}

// P1.2 with R2, R6: what is handed in stays, what lies behind its length does not count, and later calls see nothing of it.
func TestBytesHandedIn(t *testing.T) {
	b := row(100, 5)
	before := slices.Clone(b)
	want := slowSum(before[:40])
	if Sum(b[:40]) != want || More(0, b[:40]) != want {
		t.Error("bytes behind the length count")
	}
	if !bytes.Equal(b, before) {
		t.Error("the bytes were changed")
	}
	for i := range b {
		b[i] = 0
	}
	if Sum(before[:40]) != want {
		t.Error("the bytes were kept")
	}
}

// P1.3: bytes in two parts, cut at each place, an empty part at both ends.
func TestTwoParts(t *testing.T) {
	for _, n := range []int{0, 1, 2, 9, 64, 65, 200} {
		b := row(n, uint32(n)+3)
		want := slowSum(b)
		for cut := range n + 1 {
			if got := More(Sum(b[:cut]), b[cut:]); got != want {
				t.Errorf("%d bytes cut at %d: %08x, want %08x", n, cut, got, want)
			}
		}
	}
}

// P1.3: bytes in many parts, of one size or of growing ones.
func TestManyParts(t *testing.T) {
	b := row(500, 11)
	want := slowSum(b)
	for size := 1; size <= len(b); size++ {
		sum := Sum(nil)
		for part := range slices.Chunk(b, size) {
			sum = More(sum, part)
		}
		if sum != want {
			t.Errorf("parts of %d: %08x, want %08x", size, sum, want)
		}
	}
	sum, rest := uint32(0), b
	for size := 0; len(rest) > 0; size++ {
		part := rest[:min(size, len(rest))]
		sum, rest = More(sum, part), rest[len(part):]
	}
	if sum != want {
		t.Errorf("growing parts: %08x, want %08x", sum, want)
	}
}

// P1.3: rows of one or two bytes, all of them: each pair differs within four bytes, so no Sum comes twice.
func TestShortRowsUnlike(t *testing.T) {
	ones, twos := map[uint32]bool{}, map[uint32]bool{}
	for n := range 1 << 16 {
		ones[Sum([]byte{byte(n)})] = true
		twos[Sum([]byte{byte(n), byte(n >> 8)})] = true
	}
	if len(ones) != 1<<8 || len(twos) != 1<<16 {
		t.Errorf("%d and %d unlike Sums", len(ones), len(twos))
	}
}

// P1.3: longer rows. What a change of some bits does to the Sum is the exclusive or of what each bit does,
// so no change within four bytes leaves the Sum as it was, just if what their 32 bits do is independent.
func TestWindowsUnlike(t *testing.T) {
	for _, n := range []int{1, 3, 4, 5, 8, 63, 64, 70} {
		b := row(n, uint32(n)+17)
		for at := range max(1, n-3) {
			width := min(32, 8*n)
			if got := rank(effects(b, at, width)); got != width {
				t.Errorf("%d bytes, changed from %d on: only %d of %d bits are independent", n, at, got, width)
			}
		}
	}
}

// effects tells what turning each of the width bits from the byte at on does to the Sum of b.
func effects(b []byte, at, width int) []uint32 {
	sum := Sum(b)
	var out []uint32
	for bit := range width {
		c := slices.Clone(b)
		c[at+bit/8] ^= 1 << (bit % 8)
		out = append(out, sum^Sum(c))
	}
	return out
}

// rank tells how many of l are independent under exclusive or.
func rank(l []uint32) int {
	var lead [32]uint32
	n := 0
	for _, x := range l {
		for x != 0 {
			top := bits.Len32(x) - 1
			if lead[top] == 0 {
				lead[top] = x
				n++
				break
			}
			x ^= lead[top]
		}
	}
	return n
}

// P1.3: what TestWindowsUnlike leans on, and changes of up to four bytes outright.
func TestChangesWithinFourBytes(t *testing.T) {
	for n := 4; n < 200; n += 7 {
		a := row(n, uint32(n))
		for seed := range uint32(50) {
			change := row(4, seed*977+uint32(n))
			if bytes.Equal(change, make([]byte, 4)) {
				continue
			}
			at := int(seed) % (n - 3)
			b, whole := slices.Clone(a), make([]byte, n)
			for i, c := range change {
				b[at+i] ^= c
				whole[at+i] = c
			}
			if Sum(a) == Sum(b) {
				t.Errorf("%d bytes, changed at %d by %x: the same Sum", n, at, change)
			}
			if Sum(a)^Sum(b) != Sum(whole)^Sum(make([]byte, n)) {
				t.Errorf("%d bytes: what a change does hangs on the bytes", n)
			}
		}
	}
}
