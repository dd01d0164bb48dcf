package disk

import (
	"bytes"
	"testing"

	"chandler/api"
)

// model is a disk by the document's words, bit by bit, with all that was done kept in plain lists.
type model struct {
	is, sure [][]bool
	calls    int
	goes     int // the number of the call at which the power goes; 0: none
	gone     bool
}

// newModel tells a model of n sectors.
func newModel(n int) *model {
	m := &model{}
	for range n {
		m.is = append(m.is, make([]bool, 8*api.SectorSize))
		m.sure = append(m.sure, make([]bool, 8*api.SectorSize))
	}
	return m
}

// bit tells one of b's bits: none are 0 behind its end.
func bit(b []byte, i int) bool {
	return i/8 < len(b) && b[i/8]&(1<<(i%8)) != 0
}

// change counts a call and tells whether there was power ahead of it, and at it.
func (m *model) change() (ahead, at bool) {
	m.calls++
	ahead = !m.gone
	if m.calls == m.goes {
		m.gone = true
	}
	return ahead, !m.gone
}

// write is Write.
func (m *model) write(i int, b []byte) api.Errno {
	ahead, at := m.change()
	wrong := i < 0 || i >= len(m.is) || len(b) != api.SectorSize
	if ahead && !wrong {
		for j := range m.is[i] {
			m.is[i][j] = bit(b, j)
		}
	}
	if !at {
		return api.ErrDown
	}
	if wrong {
		return api.ErrArg
	}
	return api.OK
}

// flush is Flush.
func (m *model) flush() api.Errno {
	if _, at := m.change(); !at {
		return api.ErrDown
	}
	for i := range m.is {
		copy(m.sure[i], m.is[i])
	}
	return api.OK
}

// fuse is Fuse.
func (m *model) fuse(n int) {
	m.goes = 0
	if n > 0 {
		m.goes = m.calls + n
	}
}

// crash is Crash.
func (m *model) crash(picks []byte) {
	m.gone, m.goes = false, 0
	at := 0
	for i := range m.is {
		unlike := false
		for j := range m.is[i] {
			unlike = unlike || m.is[i][j] != m.sure[i][j]
		}
		if !unlike {
			continue
		}
		for j := range m.is[i] {
			if !bit(picks, at+j) {
				m.is[i][j] = m.sure[i][j]
			}
		}
		at += 8 * api.SectorSize
	}
	for i := range m.is {
		copy(m.sure[i], m.is[i])
	}
}

// bytes tells what all sectors of the model read, one behind the other.
func (m *model) bytes() []byte {
	b := make([]byte, len(m.is)*api.SectorSize)
	for i := range m.is {
		for j, one := range m.is[i] {
			if one {
				b[i*api.SectorSize+j/8] |= 1 << (j % 8)
			}
		}
	}
	return b
}

// copy tells a model of its own.
func (m *model) copy() *model {
	c := newModel(len(m.is))
	for i := range m.is {
		copy(c.is[i], m.is[i])
		copy(c.sure[i], m.sure[i])
	}
	c.calls, c.goes, c.gone = m.calls, m.goes, m.gone
	return c
}

// P2.1 to P2.6: rows of calls, each answer held against the model's.
func TestAgainstModel(t *testing.T) {
	for seed := range uint32(300) {
		n := int(seed % 5)
		d, m := New(n), newModel(n)
		picks := row(400, seed*7919)
		for at := range 60 {
			a, b := int(picks[6*at]), int(picks[6*at+1])
			i := b%(n+2) - 1
			sector := full(byte(b % 5))
			if a%3 == 0 {
				sector = row(api.SectorSize, uint32(b)+seed)
			}
			switch a / 3 % 16 {
			case 0:
				d.Fuse(b%9 - 2)
				m.fuse(b%9 - 2)
			case 1:
				d, m = d.Copy(), m.copy()
			case 2:
				kept := row(b%200, uint32(a+b)+seed)
				d.Crash(kept)
				m.crash(kept)
			case 3, 4:
				wantErr(t, "Flush", d.Flush(), m.flush())
			case 5:
				wantErr(t, "short Write", d.Write(i, sector[:b%65]), m.write(i, sector[:b%65]))
			default:
				wantErr(t, "Write", d.Write(i, sector), m.write(i, sector))
			}
			sameAsModel(t, d, m)
		}
		if t.Failed() {
			t.Fatalf("seed %d", seed)
		}
	}
}

// sameAsModel fails, if d tells something else than m does.
func sameAsModel(t *testing.T, d *Disk, m *model) {
	t.Helper()
	if d.Len() != len(m.is) || d.Calls() != m.calls || d.Down() != m.gone {
		t.Errorf("Len %d, Calls %d, Down %v; want %d, %d, %v", d.Len(), d.Calls(), d.Down(), len(m.is), m.calls, m.gone)
	}
	if !m.gone {
		if !bytes.Equal(contents(t, d), m.bytes()) {
			t.Error("the sectors read otherwise")
		}
		return
	}
	for i := -1; i <= d.Len(); i++ {
		if b, e := d.Read(i); b != nil || e != api.ErrDown {
			t.Errorf("Read(%d) without power: %d bytes, %v", i, len(b), e)
		}
	}
}
