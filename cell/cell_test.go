package cell_test

import (
	"bytes"
	"encoding/binary"
	"math"
	"slices"
	"testing"

	"parapet/api"
	"parapet/cell"
	"parapet/mem"
)

const greatest = math.MaxUint32

// slot is a marker and a word.
type slot struct {
	marker byte
	word   uint32
}

func (s slot) bytes() []byte { return binary.BigEndian.AppendUint32([]byte{s.marker}, s.word) }

// layout: the ten bytes of two slots.
func layout(first, second slot) []byte { return append(first.bytes(), second.bytes()...) }

// held: a slot that holds this word.
func held(word uint32) slot { return slot{0xa5, word} }

// load: a memory with these bytes.
func load(t *testing.T, b []byte) *mem.Mem {
	t.Helper()
	m, e := mem.Load(b)
	if e != api.OK {
		t.Fatalf("P7.1: Load of %d bytes: %d", len(b), e)
	}
	return m
}

// open: a cell over this memory.
func open(t *testing.T, m *mem.Mem, max uint32) *cell.Cell {
	t.Helper()
	c, e := cell.Open(m, max)
	if c == nil || e != api.OK {
		t.Fatalf("P8.1: Open of % x with max %d: a cell: %v, %d", m.Bytes(), max, c != nil, e)
	}
	return c
}

// holdNoCell: Open answers this error, and no cell beside it (R3).
func holdNoCell(t *testing.T, m *mem.Mem, max uint32, want api.Errno) {
	t.Helper()
	if c, e := cell.Open(m, max); c != nil || e != want {
		t.Errorf("P8.1: Open of %d bytes with max %d: a cell: %v, %d, not %d", m.Size(), max, c != nil, e, want)
	}
}

func holdValue(t *testing.T, c *cell.Cell, want uint32) {
	t.Helper()
	// Twice: looking changes nothing.
	for range 2 {
		if got := c.Value(); got != want {
			t.Errorf("P8.2: Value: %d, not %d", got, want)
		}
	}
}

// holdNext: this number and no error, or 0 beside this error (R3).
func holdNext(t *testing.T, c *cell.Cell, want uint32, e api.Errno) {
	t.Helper()
	if got, code := c.Next(); got != want || code != e {
		t.Errorf("P8.2: Next: %d, %d, not %d, %d", got, code, want, e)
	}
}

// holdMem: what the memory has, how many bytes were written, and the power.
func holdMem(t *testing.T, m *mem.Mem, b []byte, writes int, off bool) {
	t.Helper()
	if got := m.Bytes(); !bytes.Equal(got, b) {
		t.Errorf("P8.2: the memory: % x, not % x", got, b)
	}
	if got := m.Writes(); got != writes {
		t.Errorf("P8.4: writes: %d, not %d", got, writes)
	}
	if got := m.Off(); got != off {
		t.Errorf("P8.2: the power is off: %v, not %v", got, off)
	}
}

// cutNow turns the power off, and writes nothing.
func cutNow(t *testing.T, m *mem.Mem) {
	t.Helper()
	m.Arm(0)
	if e := m.Write(0, 0xee); e != api.ErrCut || !m.Off() {
		t.Fatalf("P7.2: Write behind Arm(0): %d, off: %v", e, m.Off())
	}
}

// write is one byte that is written.
type write struct {
	at int
	b  byte
}

// fill: the six writes of a slot.
func fill(which int, word uint32) []write {
	at := 5 * which
	return []write{
		{at, 0},
		{at + 1, byte(word >> 24)},
		{at + 2, byte(word >> 16)},
		{at + 3, byte(word >> 8)},
		{at + 4, byte(word)},
		{at, 0xa5},
	}
}

// behind: the bytes behind these writes.
func behind(b []byte, writes []write) []byte {
	b = slices.Clone(b)
	for _, w := range writes {
		b[w.at] = w.b
	}
	return b
}

// holdOpen: Open makes just these writes in this order, wherever it is cut;
// behind the last of them there is a cell with this value.
func holdOpen(t *testing.T, b []byte, max uint32, writes []write, value uint32) {
	t.Helper()
	for k := range writes {
		m := load(t, b)
		m.Arm(k)
		holdNoCell(t, m, max, api.ErrCut)
		holdMem(t, m, behind(b, writes[:k]), k, true)
		// And again, now that it is off.
		holdNoCell(t, m, max, api.ErrCut)
		holdMem(t, m, behind(b, writes[:k]), k, true)
	}
	for _, spare := range []int{0, 1, 100} {
		m := load(t, b)
		m.Arm(len(writes) + spare)
		holdValue(t, open(t, m, max), value)
		holdMem(t, m, behind(b, writes), len(writes), false)
	}
	m := load(t, b)
	holdValue(t, open(t, m, max), value)
	holdMem(t, m, behind(b, writes), len(writes), false)
	if t.Failed() {
		t.Fatalf("Open of % x with max %d", b, max)
	}
}

func TestCellOfTheChapter(t *testing.T) {
	m := load(t, make([]byte, 10))
	c := open(t, m, 3)
	holdValue(t, c, 0)
	holdMem(t, m, make([]byte, 10), 0, false)

	holdNext(t, c, 1, api.OK)
	holdValue(t, c, 1)
	holdMem(t, m, []byte{0xa5, 0, 0, 0, 1, 0, 0, 0, 0, 0}, 6, false)
	holdNext(t, c, 2, api.OK)
	holdValue(t, c, 2)
	holdMem(t, m, []byte{0xa5, 0, 0, 0, 1, 0xa5, 0, 0, 0, 2}, 12, false)
	holdNext(t, c, 3, api.OK)
	holdValue(t, c, 3)
	holdMem(t, m, []byte{0xa5, 0, 0, 0, 3, 0xa5, 0, 0, 0, 2}, 18, false)
	for range 3 {
		holdNext(t, c, 0, api.ErrExhausted)
		holdValue(t, c, 3)
		holdMem(t, m, []byte{0xa5, 0, 0, 0, 3, 0xa5, 0, 0, 0, 2}, 18, false)
	}
}

func TestCutOfTheChapter(t *testing.T) {
	m := load(t, make([]byte, 10))
	c := open(t, m, 3)
	holdNext(t, c, 1, api.OK)
	m.Arm(2)
	holdNext(t, c, 0, api.ErrCut)
	holdValue(t, c, 1)
	holdMem(t, m, []byte{0xa5, 0, 0, 0, 1, 0, 0, 0, 0, 0}, 8, true)

	m.On()
	d := open(t, m, 3)
	holdValue(t, d, 1)
	holdMem(t, m, []byte{0xa5, 0, 0, 0, 1, 0xa5, 0, 0, 0, 1}, 14, false)
	holdNext(t, d, 2, api.OK)
	holdValue(t, d, 2)
	holdMem(t, m, []byte{0xa5, 0, 0, 0, 2, 0xa5, 0, 0, 0, 1}, 20, false)
}

func TestOpenOfNoMemory(t *testing.T) {
	// Ahead of a max that may not be, too.
	for _, max := range []uint32{0, 1, 3, greatest} {
		holdNoCell(t, nil, max, api.ErrNil)
	}
}

// mixed: n bytes, in which neither slot holds a word and all would be written.
func mixed(n int) []byte {
	b := make([]byte, n)
	for i := range b {
		b[i] = byte(0x11 + 3*i)
	}
	return b
}

func TestOpenOutsideItsRange(t *testing.T) {
	for _, size := range []int{0, 1, 5, 9, 10, 11, api.MaxMem} {
		for _, max := range []uint32{0, 1, 3, greatest} {
			if size >= 10 && max > 0 {
				continue
			}
			b := mixed(size)
			if size > 0 {
				b[0] = 0xa5
			}
			m := load(t, b)
			holdNoCell(t, m, max, api.ErrRange)
			holdMem(t, m, b, 0, false)
			// ErrRange comes ahead of ErrCut, and R4: nothing is written, so the power stays.
			m.Arm(0)
			holdNoCell(t, m, max, api.ErrRange)
			holdMem(t, m, b, 0, false)
			if size > 0 {
				cutNow(t, m)
				holdNoCell(t, m, max, api.ErrRange)
				holdMem(t, m, b, 0, true)
			}
		}
	}
	// A memory that nothing has made has no bytes.
	holdNoCell(t, new(mem.Mem), 1, api.ErrRange)
}

func TestOpenWhileThePowerIsOff(t *testing.T) {
	// Also where nothing would be written.
	for _, b := range [][]byte{make([]byte, 10), mixed(10), mixed(40), layout(held(1), held(2)), layout(held(1), slot{}), layout(slot{}, held(1))} {
		for _, max := range []uint32{1, 3, greatest} {
			m := load(t, b)
			cutNow(t, m)
			holdNoCell(t, m, max, api.ErrCut)
			holdMem(t, m, b, 0, true)
			m.Arm(50)
			holdNoCell(t, m, max, api.ErrCut)
			holdMem(t, m, b, 0, true)
			m.On()
			open(t, m, max)
		}
	}
}

func TestOpenOfEverySize(t *testing.T) {
	for _, size := range []int{10, 11, 12, 15, 20, 255, 256, api.MaxMem - 1, api.MaxMem} {
		b := mixed(size)
		holdOpen(t, b, 9, []write{{0, 0}, {5, 0}}, 0)
		b[0] = 0xa5
		word := binary.BigEndian.Uint32(b[1:])
		holdOpen(t, b, 9, fill(1, word), word)

		// The bytes behind the tenth are no part of it.
		m := load(t, b)
		c := open(t, m, greatest)
		holdNext(t, c, word+1, api.OK)
		holdNext(t, c, word+2, api.OK)
		want := append(layout(held(word+1), held(word+2)), b[10:]...)
		holdMem(t, m, want, 18, false)
	}
}

// words: 0, the least, the greatest, and some in which each byte counts.
func words() []uint32 {
	return []uint32{0, 1, 2, 0xff, 0x100, 0x11223344, 0x44332211, 0x01000000, 0x00ffffff, 0x7fffffff, 0x80000000, 0xa5a5a5a5, greatest - 1, greatest}
}

// noMarkers: what is neither 0 nor a5.
func noMarkers() []byte { return []byte{1, 0x5a, 0xa4, 0xa6, 0x25, 0x85, 0xb5, 0x50, 0x7f, 0x80, 0xff} }

func TestOpenWhereNoneHoldsAWord(t *testing.T) {
	for _, word := range words() {
		for _, max := range []uint32{1, 3, greatest} {
			holdOpen(t, layout(slot{0, word}, slot{0, ^word}), max, nil, 0)
			for _, marker := range noMarkers() {
				holdOpen(t, layout(slot{marker, word}, slot{0, ^word}), max, []write{{0, 0}}, 0)
				holdOpen(t, layout(slot{0, word}, slot{marker, ^word}), max, []write{{5, 0}}, 0)
				for _, other := range noMarkers() {
					holdOpen(t, layout(slot{marker, word}, slot{other, ^word}), max, []write{{0, 0}, {5, 0}}, 0)
				}
			}
		}
	}
}

func TestOpenWhereOneHoldsAWord(t *testing.T) {
	for _, word := range words() {
		for _, max := range []uint32{1, 3, greatest} {
			for _, marker := range append(noMarkers(), 0) {
				// What the other slot has is nothing, whether greater, lesser or the same.
				for _, other := range []uint32{0, word, ^word, greatest} {
					holdOpen(t, layout(held(word), slot{marker, other}), max, fill(1, word), word)
					holdOpen(t, layout(slot{marker, other}, held(word)), max, fill(0, word), word)
				}
			}
		}
	}
}

func TestOpenWhereBothHoldAWord(t *testing.T) {
	for _, first := range words() {
		for _, second := range words() {
			for _, max := range []uint32{1, 3, first, greatest} {
				if max > 0 {
					holdOpen(t, layout(held(first), held(second)), max, nil, max2(first, second))
				}
			}
		}
	}
}

func max2(a, b uint32) uint32 {
	if a < b {
		return b
	}
	return a
}

func TestEveryMarker(t *testing.T) {
	for marker := range 256 {
		s := slot{byte(marker), 7}
		switch marker {
		case 0:
			holdOpen(t, layout(s, s), 9, nil, 0)
		case 0xa5:
			holdOpen(t, layout(s, s), 9, nil, 7)
		default:
			holdOpen(t, layout(s, s), 9, []write{{0, 0}, {5, 0}}, 0)
		}
	}
}

// holdNumber: from these bytes, in which both slots hold a word or both
// markers are 0, Next makes the six writes of this slot, wherever it is cut.
func holdNumber(t *testing.T, b []byte, max uint32, which int, number uint32) {
	t.Helper()
	for k := range 6 {
		holdCut(t, b, max, k, fill(which, number)[:k], number-1)
	}
	for _, spare := range []int{0, 1, 100} {
		m := load(t, b)
		c := open(t, m, max)
		m.Arm(6 + spare)
		holdNext(t, c, number, api.OK)
		holdValue(t, c, number)
		holdMem(t, m, behind(b, fill(which, number)), 6, false)
	}
	if t.Failed() {
		t.Fatalf("Next at % x with max %d", b, max)
	}
}

// holdCut: Next is cut behind k writes: this cell gives no number any more,
// with the power off and on; a new one gives the number that wasn't given.
func holdCut(t *testing.T, b []byte, max uint32, k int, done []write, value uint32) {
	t.Helper()
	m := load(t, b)
	c := open(t, m, max)
	m.Arm(k)
	holdNext(t, c, 0, api.ErrCut)
	holdValue(t, c, value)
	b = behind(b, done)
	holdMem(t, m, b, k, true)

	holdNext(t, c, 0, api.ErrCut)
	m.On()
	for range 2 {
		holdNext(t, c, 0, api.ErrCut)
		holdValue(t, c, value)
		holdMem(t, m, b, k, false)
	}

	d := open(t, m, max)
	holdValue(t, d, value)
	holdNext(t, d, value+1, api.OK)
	holdValue(t, d, value+1)
	b, k = m.Bytes(), m.Writes()
	// What another cell does changes nothing in the one that was cut.
	holdNext(t, c, 0, api.ErrCut)
	holdValue(t, c, value)
	holdMem(t, m, b, k, false)
}

func TestNextWhereNoneHoldsAWord(t *testing.T) {
	for _, word := range words() {
		for _, max := range []uint32{1, 3, greatest} {
			holdNumber(t, layout(slot{0, word}, slot{0, ^word}), max, 0, 1)
		}
	}
}

func TestNextWhereBothHoldAWord(t *testing.T) {
	for _, first := range words() {
		for _, second := range words() {
			value := max2(first, second)
			if value == greatest {
				continue
			}
			which := 0
			if second < first {
				which = 1
			}
			// Just below max, and far below it.
			holdNumber(t, layout(held(first), held(second)), value+1, which, value+1)
			holdNumber(t, layout(held(first), held(second)), greatest, which, value+1)
		}
	}
}

func TestNextBehindAnOpeningThatWrites(t *testing.T) {
	for _, word := range words() {
		if word == greatest {
			continue
		}
		for _, marker := range append(noMarkers(), 0) {
			for _, b := range [][]byte{layout(held(word), slot{marker, ^word}), layout(slot{marker, ^word}, held(word))} {
				m := load(t, b)
				c := open(t, m, greatest)
				// Both slots hold the same word now: slot 0 is written.
				holdNext(t, c, word+1, api.OK)
				holdMem(t, m, layout(held(word+1), held(word)), 12, false)
				if word+1 < greatest {
					holdNext(t, c, word+2, api.OK)
					holdMem(t, m, layout(held(word+1), held(word+2)), 18, false)
				}
			}
			m := load(t, layout(slot{marker, word}, slot{marker | 1, ^word}))
			if marker|1 == 0xa5 {
				continue
			}
			c := open(t, m, greatest)
			writes := m.Writes()
			holdNext(t, c, 1, api.OK)
			holdMem(t, m, layout(held(1), slot{0, ^word}), writes+6, false)
			holdNext(t, c, 2, api.OK)
			holdMem(t, m, layout(held(1), held(2)), writes+12, false)
		}
	}
}

// holdExhausted: no number is left, nothing is written, and so an armed power stays.
func holdExhausted(t *testing.T, m *mem.Mem, c *cell.Cell, value uint32) {
	t.Helper()
	b, writes := m.Bytes(), m.Writes()
	m.Arm(0)
	for range 3 {
		holdNext(t, c, 0, api.ErrExhausted)
		holdValue(t, c, value)
		holdMem(t, m, b, writes, false)
	}
	// ErrCut comes ahead of it.
	cutNow(t, m)
	holdNext(t, c, 0, api.ErrCut)
	holdMem(t, m, b, writes, true)
	m.On()
	holdNext(t, c, 0, api.ErrExhausted)
	holdValue(t, c, value)
	holdMem(t, m, b, writes, false)
}

func TestNextAtTheGreatest(t *testing.T) {
	for _, max := range []uint32{1, 2, 3, 0xff, 0x100, 0x01000000, 0x7fffffff, 0x80000000, greatest - 1, greatest} {
		// One below max, by either slot: one number more, and then none.
		for _, b := range [][]byte{layout(held(max-1), held(max-1)), layout(held(max-1), held(0)), layout(held(0), held(max-1))} {
			m := load(t, b)
			c := open(t, m, max)
			holdNext(t, c, max, api.OK)
			holdExhausted(t, m, c, max)
		}
		// At max, and above it.
		for _, value := range []uint32{max, max + 1, max + 2, greatest} {
			if value < max {
				continue
			}
			for _, b := range [][]byte{layout(held(value), held(value)), layout(held(value), held(0)), layout(held(0), held(value)), layout(held(value), slot{}), layout(slot{}, held(value)), layout(held(value), slot{1, 0})} {
				m := load(t, b)
				c := open(t, m, max)
				holdValue(t, c, value)
				holdExhausted(t, m, c, value)
			}
		}
	}
}

func TestNextCountsUp(t *testing.T) {
	// Each byte of the word is carried over.
	for _, start := range []uint32{0, 0xfd, 0xfffd, 0xfffffd, 0x7ffffffd, greatest - 6} {
		m := load(t, layout(held(start), held(start)))
		c := open(t, m, greatest)
		slots := [2]uint32{start, start}
		for i := range uint32(6) {
			holdNext(t, c, start+1+i, api.OK)
			holdValue(t, c, start+1+i)
			slots[i%2] = start + 1 + i
			holdMem(t, m, layout(held(slots[0]), held(slots[1])), int(6*(i+1)), false)
		}
	}
	m := load(t, make([]byte, 10))
	c := open(t, m, 70000)
	for i := range uint32(70000) {
		holdNext(t, c, i+1, api.OK)
	}
	holdNext(t, c, 0, api.ErrExhausted)
	holdMem(t, m, layout(held(69999), held(70000)), 420000, false)
}

func TestNextWhileThePowerIsOff(t *testing.T) {
	for _, b := range [][]byte{make([]byte, 10), layout(held(4), held(4)), layout(held(4), held(3)), layout(held(3), held(4))} {
		m := load(t, b)
		c := open(t, m, 9)
		value := c.Value()
		// The power goes, but not in Next: behind On this cell goes on.
		for i := range uint32(4) {
			want, writes := m.Bytes(), m.Writes()
			cutNow(t, m)
			for range 2 {
				holdNext(t, c, 0, api.ErrCut)
				holdValue(t, c, value+i)
				holdMem(t, m, want, writes, true)
			}
			m.On()
			holdValue(t, c, value+i)
			holdMem(t, m, want, writes, false)
			holdNext(t, c, value+i+1, api.OK)
		}
		// Behind a cut in Next it doesn't.
		m.Arm(5)
		holdNext(t, c, 0, api.ErrCut)
		cutNow(t, m)
		holdNext(t, c, 0, api.ErrCut)
		m.On()
		holdNext(t, c, 0, api.ErrCut)
		holdValue(t, c, value+4)
	}
}

func TestCutComesAheadOfExhausted(t *testing.T) {
	// The cell was cut at its last number; others came to the greatest behind it.
	for k := range 6 {
		m := load(t, layout(held(2), held(1)))
		c := open(t, m, 3)
		m.Arm(k)
		holdNext(t, c, 0, api.ErrCut)
		m.On()
		d := open(t, m, 3)
		holdNext(t, d, 3, api.OK)
		holdNext(t, c, 0, api.ErrCut)
		holdValue(t, c, 2)
		holdExhausted(t, m, d, 3)
	}
}

func TestOpenedAgain(t *testing.T) {
	// Nothing is written, and the cells go on where the last one was.
	m := load(t, layout(held(1), held(2)))
	for i := range uint32(20) {
		b, writes := m.Bytes(), m.Writes()
		c := open(t, m, 100)
		holdValue(t, c, 2+i)
		holdMem(t, m, b, writes, false)
		holdNext(t, c, 3+i, api.OK)
		if got := m.Writes(); got != writes+6 {
			t.Errorf("P8.4: Next: %d writes", got-writes)
		}
	}
	// With another max: what it is belongs to the cell, not to the memory.
	holdNext(t, open(t, m, 22), 0, api.ErrExhausted)
	holdNext(t, open(t, m, 1), 0, api.ErrExhausted)
	holdNext(t, open(t, m, 23), 23, api.OK)
	holdNext(t, open(t, m, 23), 0, api.ErrExhausted)
	holdNext(t, open(t, m, 24), 24, api.OK)
}

func TestNilCell(t *testing.T) {
	var c *cell.Cell
	m := load(t, layout(held(1), held(2)))
	other := open(t, m, 9)
	for range 2 {
		// R7: it holds nothing.
		holdValue(t, c, 0)
		holdNext(t, c, 0, api.ErrNil)
	}
	// And it is nothing to one that is there.
	holdValue(t, other, 2)
	holdNext(t, other, 3, api.OK)
}

func TestCellThatWasNotOpened(t *testing.T) {
	// P1: no call panics, at a cell that nothing has opened neither.
	var c cell.Cell
	holdValue(t, &c, 0)
	if n, e := c.Next(); n != 0 || e == api.OK {
		t.Errorf("P1: Next of a cell without a memory: %d, %d", n, e)
	}
	holdValue(t, &c, 0)
}

func TestTwoCellsInTurns(t *testing.T) {
	m, o := load(t, make([]byte, 10)), load(t, layout(held(40), held(41)))
	c, d := open(t, m, 3), open(t, o, greatest)
	holdNext(t, c, 1, api.OK)
	holdNext(t, d, 42, api.OK)
	holdNext(t, c, 2, api.OK)
	m.Arm(3)
	holdNext(t, d, 43, api.OK)
	holdNext(t, c, 0, api.ErrCut)
	holdNext(t, d, 44, api.OK)
	holdValue(t, c, 2)
	holdValue(t, d, 44)
	holdMem(t, m, layout(slot{0, 1}, held(2)), 15, true)
	holdMem(t, o, layout(held(44), held(43)), 18, false)
	cutNow(t, o)
	m.On()
	c = open(t, m, 3)
	holdNext(t, d, 0, api.ErrCut)
	holdNext(t, c, 3, api.OK)
	o.On()
	holdNext(t, c, 0, api.ErrExhausted)
	holdNext(t, d, 45, api.OK)
	holdMem(t, m, layout(held(3), held(2)), 27, false)
	holdMem(t, o, layout(held(44), held(45)), 24, false)
}

func TestTwoMemoriesOfOneList(t *testing.T) {
	b := layout(held(7), slot{})
	m, o := load(t, b), load(t, b)
	c, d := open(t, m, 99), open(t, o, 99)
	for i := range uint32(10) {
		holdNext(t, c, 8+i, api.OK)
		holdValue(t, d, 7)
	}
	holdNext(t, d, 8, api.OK)
	holdMem(t, o, layout(held(8), held(7)), 12, false)
	if !bytes.Equal(b, layout(held(7), slot{})) {
		t.Errorf("R6: the list was changed: % x", b)
	}
}
