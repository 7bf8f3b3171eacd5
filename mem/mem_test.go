package mem_test

import (
	"bytes"
	"fmt"
	"math"
	"runtime"
	"slices"
	"sync"
	"testing"

	"parapet/api"
	"parapet/mem"
)

// newMem: a memory of n bytes 0.
func newMem(t *testing.T, n int) *mem.Mem {
	t.Helper()
	m, e := mem.New(n)
	if m == nil || e != api.OK {
		t.Fatalf("P7.1: New(%d): a memory: %v, %d", n, m != nil, e)
	}
	return m
}

// load: a memory with these bytes.
func load(t *testing.T, b []byte) *mem.Mem {
	t.Helper()
	m, e := mem.Load(b)
	if m == nil || e != api.OK {
		t.Fatalf("P7.1: Load of %d bytes: a memory: %v, %d", len(b), m != nil, e)
	}
	return m
}

// full: n bytes, none of them 0, others with each seed.
func full(n, seed int) []byte {
	b := make([]byte, n)
	for i := range b {
		b[i] = byte(1 + (i*7+seed*31)%255)
	}
	return b
}

// noPlaces: what is no place in a memory of this size; the last ones are the
// place 0 to whoever looks at the low bits alone.
func noPlaces(size int) []int {
	return []int{-1, -2, -size - 1, size, size + 1, api.MaxMem, math.MaxInt64, math.MinInt64, 1 << 16, 1 << 32, -1 << 32}
}

// short: a list's beginning is enough to tell it by.
func short(b []byte) string {
	return fmt.Sprintf("%d bytes % x", len(b), b[:min(len(b), 16)])
}

// holdMem: all that one sees of a memory without a write.
func holdMem(t *testing.T, m *mem.Mem, b []byte, writes int, off bool) {
	t.Helper()
	// Twice: looking changes nothing.
	for range 2 {
		if got := m.Off(); got != off {
			t.Errorf("P7.3: Off: %v, not %v", got, off)
		}
		if got := m.Size(); got != len(b) {
			t.Errorf("P7.4: Size: %d, not %d", got, len(b))
		}
		if got := m.Bytes(); !bytes.Equal(got, b) {
			t.Errorf("P7.4: Bytes: %s, not %s", short(got), short(b))
		}
		if got := m.Writes(); got != writes {
			t.Errorf("P7.4: Writes: %d, not %d", got, writes)
		}
		holdReads(t, m, b, off)
	}
}

// holdReads: each place reads as the byte, or as ErrCut; and there are no others.
func holdReads(t *testing.T, m *mem.Mem, b []byte, off bool) {
	t.Helper()
	for at, c := range b {
		if off {
			holdRead(t, m, at, 0, api.ErrCut)
		} else {
			holdRead(t, m, at, c, api.OK)
		}
	}
	for _, at := range noPlaces(len(b)) {
		if off {
			holdRead(t, m, at, 0, api.ErrCut)
		} else {
			holdRead(t, m, at, 0, api.ErrRange)
		}
	}
}

func holdRead(t *testing.T, m *mem.Mem, at int, c byte, e api.Errno) {
	t.Helper()
	if got, code := m.Read(at); got != c || code != e {
		t.Errorf("P7.2: Read(%d): %d, %d, not %d, %d", at, got, code, c, e)
	}
}

func holdWrite(t *testing.T, m *mem.Mem, at int, c byte, want api.Errno) {
	t.Helper()
	if got := m.Write(at, c); got != want {
		t.Errorf("P7.2: Write(%d, %d): %d, not %d", at, c, got, want)
	}
}

func holdArm(t *testing.T, m *mem.Mem, n int, want api.Errno) {
	t.Helper()
	if got := m.Arm(n); got != want {
		t.Errorf("P7.3: Arm(%d): %d, not %d", n, got, want)
	}
}

// holdLeft: of a memory that has a place 0: so many writes are left, then the power goes.
func holdLeft(t *testing.T, m *mem.Mem, n int) {
	t.Helper()
	for i := range n {
		holdWrite(t, m, 0, byte(i), api.OK)
	}
	b, writes := m.Bytes(), m.Writes()
	holdMem(t, m, b, writes, false)
	holdWrite(t, m, 0, b[0]+1, api.ErrCut)
	holdMem(t, m, b, writes, true)
}

// holdUnarmed: of a memory that has a place 0: writes enough go by to say that it isn't armed.
func holdUnarmed(t *testing.T, m *mem.Mem) {
	t.Helper()
	b, writes := m.Bytes(), m.Writes()
	const many = 50
	for i := range many {
		holdWrite(t, m, 0, byte(i+1), api.OK)
	}
	b[0] = many
	holdMem(t, m, b, writes+many, false)
}

func TestMemOfTheChapter(t *testing.T) {
	m := newMem(t, 3)
	holdWrite(t, m, 3, 1, api.ErrRange)
	holdArm(t, m, 1, api.OK)
	holdWrite(t, m, 0, 7, api.OK)
	holdWrite(t, m, 5, 7, api.ErrRange)
	holdWrite(t, m, 1, 8, api.ErrCut)
	holdMem(t, m, []byte{7, 0, 0}, 1, true)
	m.On()
	holdMem(t, m, []byte{7, 0, 0}, 1, false)

	holdArm(t, m, 0, api.OK)
	holdWrite(t, m, 3, 9, api.ErrRange)
	holdMem(t, m, []byte{7, 0, 0}, 1, false)
	holdWrite(t, m, 2, 9, api.ErrCut)
	holdMem(t, m, []byte{7, 0, 0}, 1, true)
}

func TestNew(t *testing.T) {
	for _, n := range []int{0, 1, 2, 3, 10, 255, 256, api.MaxMem - 1, api.MaxMem} {
		m := newMem(t, n)
		holdMem(t, m, make([]byte, n), 0, false)
		if n > 0 {
			holdUnarmed(t, m)
		}
	}
}

func TestNewOutsideItsRange(t *testing.T) {
	for _, n := range []int{-1, -2, -api.MaxMem, math.MinInt64, api.MaxMem + 1, 2 * api.MaxMem, 1 << 16, 1 << 32, 1<<32 + 1, -1 << 32, math.MaxInt64} {
		// R3: no memory beside the error.
		if m, e := mem.New(n); m != nil || e != api.ErrRange {
			t.Errorf("P7.1: New(%d): a memory: %v, %d, not %d", n, m != nil, e, api.ErrRange)
		}
	}
}

func TestLoad(t *testing.T) {
	for _, n := range []int{0, 1, 2, 3, 10, 255, 256, api.MaxMem - 1, api.MaxMem} {
		for seed := range 3 {
			m := load(t, full(n, seed))
			holdMem(t, m, full(n, seed), 0, false)
			if n > 0 {
				holdUnarmed(t, m)
			}
		}
	}
	every := make([]byte, 256)
	for i := range every {
		every[i] = byte(255 - i)
	}
	holdMem(t, load(t, every), every, 0, false)
}

func TestLoadOfTooMany(t *testing.T) {
	for _, n := range []int{api.MaxMem + 1, api.MaxMem + 2, 2 * api.MaxMem, 1 << 16, 1<<16 + 1} {
		// R3: no memory beside the error.
		if m, e := mem.Load(full(n, 1)); m != nil || e != api.ErrRange {
			t.Errorf("P7.1: Load of %d bytes: a memory: %v, %d, not %d", n, m != nil, e, api.ErrRange)
		}
	}
	// The room behind a list isn't its own.
	m := load(t, full(api.MaxMem+9, 1)[:api.MaxMem])
	holdMem(t, m, full(api.MaxMem, 1), 0, false)
}

func TestMemoryOfNoBytes(t *testing.T) {
	for _, m := range []*mem.Mem{newMem(t, 0), load(t, nil), load(t, []byte{}), load(t, full(9, 1)[:0])} {
		// R5: none is none, however it was handed in.
		holdMem(t, m, nil, 0, false)
		for _, n := range []int{0, 1, 5} {
			holdArm(t, m, n, api.OK)
			for _, at := range append([]int{0, 1}, noPlaces(0)...) {
				holdRead(t, m, at, 0, api.ErrRange)
				holdWrite(t, m, at, 1, api.ErrRange)
			}
			// No write has a place here, so the power never goes.
			holdMem(t, m, nil, 0, false)
		}
		m.On()
		holdMem(t, m, nil, 0, false)
	}
}

func TestWriteAndReadAtTheEdges(t *testing.T) {
	for _, n := range []int{1, 2, 3, 10, api.MaxMem} {
		want := full(n, 2)
		m := load(t, want)
		writes := 0
		for _, at := range []int{0, n / 2, n - 1, 0, n - 1} {
			for _, c := range []byte{0, 255, 1, 128, 128} {
				holdWrite(t, m, at, c, api.OK)
				// A byte that was there already is written and counted, too.
				writes++
				want[at] = c
				holdRead(t, m, at, c, api.OK)
			}
			holdMem(t, m, want, writes, false)
		}
		for _, at := range noPlaces(n) {
			holdWrite(t, m, at, 77, api.ErrRange)
			holdRead(t, m, at, 0, api.ErrRange)
		}
		// R4: an error has changed nothing.
		holdMem(t, m, want, writes, false)
	}
}

func TestWriteEveryPlace(t *testing.T) {
	m := newMem(t, api.MaxMem)
	want := full(api.MaxMem, 5)
	for i := range want {
		// Not in the places' order.
		at := i * 1001 % api.MaxMem
		holdWrite(t, m, at, want[at], api.OK)
	}
	holdMem(t, m, want, api.MaxMem, false)
	for at := range want {
		holdWrite(t, m, at, 0, api.OK)
	}
	holdMem(t, m, make([]byte, api.MaxMem), 2*api.MaxMem, false)
}

func TestEveryByte(t *testing.T) {
	m := newMem(t, 2)
	for c := range 256 {
		holdWrite(t, m, 1, byte(c), api.OK)
		holdMem(t, m, []byte{0, byte(c)}, c+1, false)
	}
}

func TestArm(t *testing.T) {
	for _, n := range []int{0, 1, 2, 3, 7, 100, 1000} {
		m := load(t, full(4, 1))
		holdArm(t, m, n, api.OK)
		holdMem(t, m, full(4, 1), 0, false)
		holdLeft(t, m, n)
		if got := m.Writes(); got != n {
			t.Errorf("P7.4: Arm(%d), Writes behind the cut: %d", n, got)
		}
	}
}

func TestArmOfTheGreatest(t *testing.T) {
	for _, n := range []int{1 << 16, 1 << 31, 1 << 32, math.MaxInt64} {
		m := newMem(t, 3)
		holdArm(t, m, n, api.OK)
		holdUnarmed(t, m)
		// And it is armed as any other: the next arming holds.
		holdArm(t, m, 2, api.OK)
		holdLeft(t, m, 2)
	}
}

func TestArmBelowNothing(t *testing.T) {
	for _, n := range []int{-1, -2, -1 << 32, math.MinInt64} {
		m := load(t, full(3, 1))
		holdArm(t, m, n, api.ErrRange)
		holdUnarmed(t, m)

		// R4: an earlier arming holds on.
		holdArm(t, m, 2, api.OK)
		holdArm(t, m, n, api.ErrRange)
		holdWrite(t, m, 1, 9, api.OK)
		holdArm(t, m, n, api.ErrRange)
		holdLeft(t, m, 1)

		// Also while the power is off, which stays off.
		b, writes := m.Bytes(), m.Writes()
		holdArm(t, m, n, api.ErrRange)
		holdMem(t, m, b, writes, true)
		m.On()
		holdUnarmed(t, m)
	}
}

func TestArmAnew(t *testing.T) {
	for _, first := range []int{0, 1, 2, 5} {
		for done := range first + 1 {
			for _, next := range []int{0, 1, 2, 5, 6} {
				m := newMem(t, 3)
				holdArm(t, m, first, api.OK)
				for range done {
					holdWrite(t, m, 2, 3, api.OK)
				}
				// What was left of the first is forgotten, whichever is more.
				holdArm(t, m, next, api.OK)
				holdLeft(t, m, next)
			}
		}
	}
}

func TestArmWhileThePowerIsOff(t *testing.T) {
	for _, n := range []int{0, 1, 3, math.MaxInt64} {
		m := load(t, full(2, 1))
		holdArm(t, m, 0, api.OK)
		holdLeft(t, m, 0)
		holdArm(t, m, n, api.OK)
		// The power stays off, and no write is taken.
		for range 5 {
			holdWrite(t, m, 0, 99, api.ErrCut)
		}
		holdMem(t, m, full(2, 1), 0, true)
		m.On()
		holdMem(t, m, full(2, 1), 0, false)
		holdUnarmed(t, m)
	}
}

func TestBehindTheCut(t *testing.T) {
	m := load(t, full(5, 3))
	want := full(5, 3)
	holdArm(t, m, 2, api.OK)
	holdWrite(t, m, 4, 40, api.OK)
	holdWrite(t, m, 0, 50, api.OK)
	want[4], want[0] = 40, 50
	holdMem(t, m, want, 2, false)
	holdWrite(t, m, 2, 60, api.ErrCut)
	for range 3 {
		for at := range 5 {
			holdWrite(t, m, at, 70, api.ErrCut)
			holdRead(t, m, at, 0, api.ErrCut)
		}
		holdMem(t, m, want, 2, true)
	}
	m.On()
	holdMem(t, m, want, 2, false)
	holdWrite(t, m, 2, 60, api.OK)
	want[2] = 60
	holdMem(t, m, want, 3, false)
}

func TestCutComesAheadOfThePlace(t *testing.T) {
	for _, n := range []int{1, 3, api.MaxMem} {
		m := load(t, full(n, 1))
		holdArm(t, m, 0, api.OK)
		holdLeft(t, m, 0)
		for _, at := range noPlaces(n) {
			holdWrite(t, m, at, 5, api.ErrCut)
			holdRead(t, m, at, 0, api.ErrCut)
		}
		holdMem(t, m, full(n, 1), 0, true)
	}
}

func TestThePlaceComesAheadOfWhatIsLeft(t *testing.T) {
	for _, n := range []int{1, 3, api.MaxMem} {
		for _, left := range []int{0, 1, 2, 5} {
			m := load(t, full(n, 1))
			holdArm(t, m, left, api.OK)
			for range 3 {
				for _, at := range noPlaces(n) {
					holdWrite(t, m, at, 5, api.ErrRange)
				}
			}
			// No write less is left, and the power is on.
			holdMem(t, m, full(n, 1), 0, false)
			holdLeft(t, m, left)
		}
	}
}

func TestReadTakesNoWrite(t *testing.T) {
	m := load(t, full(4, 1))
	holdArm(t, m, 1, api.OK)
	for range 10 {
		holdReads(t, m, full(4, 1), false)
	}
	holdLeft(t, m, 1)
	m.On()
	holdArm(t, m, 0, api.OK)
	for range 10 {
		holdReads(t, m, m.Bytes(), false)
	}
	holdLeft(t, m, 0)
}

func TestOn(t *testing.T) {
	// While it is on.
	m := load(t, full(3, 1))
	m.On()
	m.On()
	holdMem(t, m, full(3, 1), 0, false)
	holdUnarmed(t, m)

	// While it is armed, with none, one and several left: it isn't then.
	for _, n := range []int{0, 1, 2, 5} {
		m = load(t, full(3, 1))
		holdArm(t, m, n, api.OK)
		m.On()
		holdMem(t, m, full(3, 1), 0, false)
		holdUnarmed(t, m)
	}

	// While it is off.
	m = load(t, full(3, 1))
	holdArm(t, m, 0, api.OK)
	holdLeft(t, m, 0)
	m.On()
	holdMem(t, m, full(3, 1), 0, false)
	holdUnarmed(t, m)

	// Behind a part of what was left.
	holdArm(t, m, 3, api.OK)
	holdWrite(t, m, 0, 1, api.OK)
	m.On()
	holdUnarmed(t, m)
}

func TestThePowerGoesOften(t *testing.T) {
	want := full(6, 4)
	m := load(t, want)
	writes := 0
	for round := range 100 {
		n := round % 7
		holdArm(t, m, n, api.OK)
		for i := range n {
			at := (round + i) % len(want)
			holdWrite(t, m, at, byte(round), api.OK)
			want[at] = byte(round)
			writes++
		}
		holdWrite(t, m, round%len(want), 255, api.ErrCut)
		holdMem(t, m, want, writes, true)
		m.On()
		holdMem(t, m, want, writes, false)
	}
}

func TestLoadKeepsNothing(t *testing.T) {
	for _, n := range []int{0, 1, 2, 10, 31, 32, 33, api.MaxMem} {
		all := full(n+40, 6)
		list := all[:n]
		m := load(t, list)
		if !bytes.Equal(all, full(n+40, 6)) {
			t.Errorf("R6: Load changes its list of %d bytes or the room behind it", n)
		}
		fill(list)
		holdMem(t, m, full(n, 6), 0, false)

		// And the other way: what is written isn't written there.
		kept := slices.Clone(all)
		for at := range n {
			holdWrite(t, m, at, 0, api.OK)
		}
		fill(m.Bytes())
		if !bytes.Equal(all, kept) {
			t.Errorf("R6: what was handed to Load is written, of %d bytes", n)
		}
	}
}

// fill changes each byte of a list, with its room.
func fill(b []byte) {
	b = b[:cap(b)]
	for i := range b {
		b[i] ^= 0xff
	}
}

func TestTwoLoadsOfOneList(t *testing.T) {
	list := full(5, 1)
	a, b := load(t, list), load(t, list)
	holdWrite(t, a, 2, 0, api.OK)
	holdMem(t, b, full(5, 1), 0, false)
	// A memory of another's bytes, which is its own.
	c := load(t, a.Bytes())
	holdWrite(t, c, 0, 0, api.OK)
	want := full(5, 1)
	want[2] = 0
	holdMem(t, a, want, 1, false)
	want[0] = 0
	holdMem(t, c, want, 1, false)
}

func TestBytesAreNew(t *testing.T) {
	for _, n := range []int{0, 1, 2, 10, 31, 32, 33, api.MaxMem} {
		for _, m := range []*mem.Mem{load(t, full(n, 8)), written(t, full(n, 8))} {
			writes := m.Writes()
			earlier := m.Bytes()
			got := m.Bytes()
			fill(got)
			got = append(got, 1, 2, 3)
			fill(got)
			if !bytes.Equal(earlier, full(n, 8)) {
				t.Errorf("R6: an answer of Bytes changes with a later one: %s", short(earlier))
			}
			holdMem(t, m, full(n, 8), writes, false)
			// Two answers that both grow, in their room or elsewhere.
			longer := append(m.Bytes(), 4)
			append(m.Bytes(), 5)[n]++
			if longer[n] != 4 {
				t.Errorf("R6: two answers of Bytes share their room, of %d bytes", n)
			}
		}
	}
}

// written: a memory in which these bytes were written one by one.
func written(t *testing.T, b []byte) *mem.Mem {
	t.Helper()
	m := newMem(t, len(b))
	for at, c := range b {
		holdWrite(t, m, at, c, api.OK)
	}
	return m
}

func TestBytesStay(t *testing.T) {
	// What was answered isn't changed by a write behind it.
	m := load(t, full(4, 2))
	got := m.Bytes()
	for at := range 4 {
		holdWrite(t, m, at, 0, api.OK)
	}
	if !bytes.Equal(got, full(4, 2)) {
		t.Errorf("R6: an answer of Bytes changes with a Write: %s", short(got))
	}
	holdArm(t, m, 0, api.OK)
	holdLeft(t, m, 0)
	got = m.Bytes()
	fill(got)
	holdMem(t, m, make([]byte, 4), 4, true)
}

func TestNilMem(t *testing.T) {
	var m *mem.Mem
	other := load(t, full(3, 1))
	holdArm(t, other, 1, api.OK)
	for range 2 {
		for _, at := range append([]int{0, 1, 2}, noPlaces(3)...) {
			holdWrite(t, m, at, 5, api.ErrNil)
			// R3: no byte beside the error.
			holdRead(t, m, at, 0, api.ErrNil)
		}
		// ErrNil comes ahead of a number that may not be.
		for _, n := range []int{0, 1, 7, math.MaxInt64, -1, math.MinInt64} {
			holdArm(t, m, n, api.ErrNil)
		}
		m.On()
		if m.Size() != 0 || m.Writes() != 0 || m.Off() || len(m.Bytes()) != 0 {
			t.Errorf("R7: a nil memory: Size %d, Writes %d, Off %v, Bytes %x", m.Size(), m.Writes(), m.Off(), m.Bytes())
		}
	}
	// And it is nothing to one that is there.
	holdMem(t, other, full(3, 1), 0, false)
	holdLeft(t, other, 1)
}

func TestMemThatWasNotMade(t *testing.T) {
	// P1: no call panics, at a memory that nothing has made neither.
	var m mem.Mem
	holdMem(t, &m, nil, 0, false)
	holdWrite(t, &m, 0, 1, api.ErrRange)
	holdArm(t, &m, 0, api.OK)
	holdWrite(t, &m, 0, 1, api.ErrRange)
	m.On()
	holdMem(t, &m, nil, 0, false)
}

func TestTwoMemoriesInTurns(t *testing.T) {
	a, b := newMem(t, 2), load(t, []byte{5, 6, 7})
	holdWrite(t, a, 1, 9, api.OK)
	holdArm(t, b, 0, api.OK)
	holdWrite(t, a, 0, 8, api.OK)
	holdWrite(t, b, 0, 1, api.ErrCut)
	holdMem(t, a, []byte{8, 9}, 2, false)
	holdMem(t, b, []byte{5, 6, 7}, 0, true)
	holdArm(t, a, 1, api.OK)
	b.On()
	holdWrite(t, b, 2, 2, api.OK)
	holdWrite(t, b, 2, 3, api.OK)
	holdLeft(t, a, 1)
	holdMem(t, b, []byte{5, 6, 3}, 2, false)
	a.On()
	holdArm(t, b, 1, api.OK)
	holdUnarmed(t, a)
	holdLeft(t, b, 1)
}

// plainMem is what a memory is to the document's words.
type plainMem struct {
	held   []byte
	off    bool
	fuse   []bool // one for each write that is left; nil: not armed
	writes int
}

func (p *plainMem) hasNo(at int) bool {
	for i := range p.held {
		if i == at {
			return false
		}
	}
	return true
}

func (p *plainMem) write(at int, c byte) api.Errno {
	if p.off {
		return api.ErrCut
	}
	if p.hasNo(at) {
		return api.ErrRange
	}
	if p.fuse != nil {
		if len(p.fuse) == 0 {
			p.off = true
			return api.ErrCut
		}
		p.fuse = p.fuse[1:]
	}
	p.held[at] = c
	p.writes++
	return api.OK
}

func (p *plainMem) arm(n int) api.Errno {
	if n < 0 {
		return api.ErrRange
	}
	p.fuse = make([]bool, n)
	return api.OK
}

func (p *plainMem) on() { p.off, p.fuse = false, nil }

// step does one of nine things to both, and holds the one to the other: a
// write at -1 to 2, an arming with -1 to 2, On.
func (p *plainMem) step(t *testing.T, m *mem.Mem, which, c int) {
	t.Helper()
	switch which {
	case 0, 1, 2, 3:
		at := which - 1
		holdWrite(t, m, at, byte(c), p.write(at, byte(c)))
	case 4, 5, 6, 7:
		n := which - 5
		holdArm(t, m, n, p.arm(n))
	case 8:
		p.on()
		m.On()
	}
}

func TestEveryShortScript(t *testing.T) {
	const things, length = 9, 5
	scripts := 1
	for range length {
		scripts *= things
	}
	for size := range 3 {
		for script := range scripts {
			p := plainMem{held: make([]byte, size)}
			m := newMem(t, size)
			var done []int
			for rest := script; len(done) < length; rest /= things {
				done = append(done, rest%things)
				p.step(t, m, rest%things, len(done))
			}
			holdMem(t, m, p.held, p.writes, p.off)
			if t.Failed() {
				t.Fatalf("of %d bytes, by the script %v", size, done)
			}
		}
	}
}

// steps answers numbers that look mixed, the same ones in every run.
type steps uint64

func (s *steps) below(n int) int {
	*s = *s*6364136223846793005 + 1442695040888963407
	return int(uint64(*s) >> 33 % uint64(n))
}

func TestMemoriesGoByTheDocument(t *testing.T) {
	var plain [3]plainMem
	var mems [3]*mem.Mem
	for i := range mems {
		plain[i].held = full(3*i, i)
		mems[i] = load(t, plain[i].held)
	}
	s := steps(1)
	for range 30000 {
		i := s.below(len(mems))
		p, m := &plain[i], mems[i]
		switch at, c := s.below(9)-1, s.below(256); s.below(12) {
		case 0:
			n := s.below(7) - 1
			holdArm(t, m, n, p.arm(n))
		case 1:
			p.on()
			m.On()
		default:
			holdWrite(t, m, at, byte(c), p.write(at, byte(c)))
		}
		holdMem(t, m, p.held, p.writes, p.off)
		if t.Failed() {
			t.FailNow()
		}
	}
}

func TestSameAgain(t *testing.T) {
	// R8: two that had the same done to them look the same, whatever others do between.
	s := steps(7)
	a, b, other := newMem(t, 3), newMem(t, 3), newMem(t, 3)
	for range 2000 {
		which, at, n := s.below(6), s.below(5)-1, s.below(6)
		for _, m := range []*mem.Mem{a, b} {
			other.Arm(s.below(3))
			other.Write(s.below(4), 1)
			switch which {
			case 0:
				m.Arm(n)
			case 1:
				m.On()
			default:
				m.Write(at, byte(n))
			}
		}
		holdMem(t, b, a.Bytes(), a.Writes(), a.Off())
		if t.Failed() {
			t.FailNow()
		}
	}
}

func TestOffIsSeenByOthers(t *testing.T) {
	// The power is a switch that others may look at while one writes: until
	// someone turns it on it goes once, and stays off.
	for range 200 {
		m := newMem(t, 1)
		m.Arm(20)
		done := make(chan struct{})
		var group sync.WaitGroup
		for range 2 {
			group.Go(func() { lookOn(t, m, done) })
		}
		for range 21 {
			m.Write(0, 1)
			runtime.Gosched()
		}
		close(done)
		group.Wait()
		holdMem(t, m, []byte{1}, 20, true)
	}
}

// lookOn looks at the power until the work is done.
func lookOn(t *testing.T, m *mem.Mem, done chan struct{}) {
	was := false
	for {
		off := m.Off()
		if was && !off {
			t.Error("P7.3: Off is false behind true, without On")
		}
		was = off
		select {
		case <-done:
			if !m.Off() {
				t.Error("P7.3: Off is false behind the cut")
			}
			return
		default:
			runtime.Gosched()
		}
	}
}
