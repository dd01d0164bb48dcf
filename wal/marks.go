package wal

import "chandler/api"

// firstOfByte is the bit that stands first in each byte.
const firstOfByte = 0x80

// marks says of each record, by one bit, whether it is there.
type marks [api.SectorSize]byte

// has tells whether the record i is marked.
func (m marks) has(i int) bool {
	return m[i/8]&(firstOfByte>>(i%8)) != 0
}

// with tells these marks, with the record i marked as well.
func (m marks) with(i int) marks {
	m[i/8] |= firstOfByte >> (i % 8)
	return m
}
