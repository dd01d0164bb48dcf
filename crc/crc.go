// Package crc: sums of bytes: see ../../shared/doc/01-crc.md.
package crc

// polynomial is the CRC-32's, its highest power at the lowest bit: so a halving drops that power.
const polynomial = 0xedb88320

// Table tells for each byte the number that comes of it.
func Table() [256]uint32 {
	var table [256]uint32
	for b := range table {
		table[b] = entry(uint32(b))
	}
	return table
}

// entry tells the number that comes of n, one byte, by a halving a bit.
func entry(n uint32) uint32 {
	for range 8 {
		dropped := n & 1
		n >>= 1
		if dropped == 1 {
			n ^= polynomial
		}
	}
	return n
}

// Sum tells the CRC-32 of b.
func Sum(b []byte) uint32 {
	// The sum of no bytes is 0: turned, it is the ffffffff that every sum begins with.
	return More(0, b)
}

// More tells the Sum of the bytes whose Sum is sum, with b behind them.
func More(sum uint32, b []byte) uint32 {
	table := Table()
	// Turning all bits again takes back what the end of sum has done.
	rest := ^sum
	for _, c := range b {
		rest = table[byte(rest)^c] ^ rest>>8
	}
	return ^rest
}
