package cell_test

import (
	"encoding/binary"
	"testing"

	"parapet/api"
	"parapet/cell"
	"parapet/mem"
)

// plain is a memory and the cell over it, to the document's words: what a
// slot holds is always asked of the bytes.
type plain struct {
	b      []byte
	writes int
	off    bool
	left   int // below 0: not armed

	open  bool
	cut   bool
	max   uint32
	value uint32
}

func newPlain(b []byte) *plain { return &plain{b: append([]byte(nil), b...), left: -1} }

// put writes one byte, and says whether the power stays.
func (p *plain) put(at int, b byte) bool {
	if p.left == 0 {
		p.off = true
	}
	if p.off {
		return false
	}
	p.left--
	if p.left < -1 {
		p.left = -1
	}
	p.b[at] = b
	p.writes++
	return true
}

func (p *plain) putSlot(which int, word uint32) bool {
	for _, w := range fill(which, word) {
		if !p.put(w.at, w.b) {
			return false
		}
	}
	return true
}

// word: what a slot holds, as a list of none or one.
func (p *plain) word(which int) []uint32 {
	s := p.b[5*which : 5*which+5]
	if s[0] != 0xa5 {
		return nil
	}
	return []uint32{binary.BigEndian.Uint32(s[1:])}
}

// greatest: the greatest word that a slot holds.
func (p *plain) greatest() uint32 {
	var value uint32
	for _, word := range append(p.word(0), p.word(1)...) {
		value = max2(value, word)
	}
	return value
}

func (p *plain) opening(max uint32) api.Errno {
	if p.off || !p.mended() {
		return api.ErrCut
	}
	p.open, p.cut, p.max, p.value = true, false, max, p.greatest()
	return api.OK
}

func (p *plain) mended() bool {
	first, second := p.word(0), p.word(1)
	switch len(first)*2 + len(second) {
	case 2:
		return p.putSlot(1, first[0])
	case 1:
		return p.putSlot(0, second[0])
	case 0:
		return (p.b[0] == 0 || p.put(0, 0)) && (p.b[5] == 0 || p.put(5, 0))
	}
	return true
}

func (p *plain) next() (uint32, api.Errno) {
	if p.cut || p.off {
		return 0, api.ErrCut
	}
	if p.value >= p.max {
		return 0, api.ErrExhausted
	}
	first, second := p.word(0), p.word(1)
	which := 0
	if len(first) == 1 && (len(second) == 0 || second[0] < first[0]) {
		which = 1
	}
	if !p.putSlot(which, p.value+1) {
		p.cut = true
		return 0, api.ErrCut
	}
	p.value++
	return p.value, api.OK
}

// history is a memory, the last cell over it, and what all of them answered,
// beside the same in the document's words.
type history struct {
	p     *plain
	m     *mem.Mem
	c     *cell.Cell
	last  uint32
	given bool
	done  []int
}

func newHistory(t *testing.T, b []byte) *history {
	return &history{p: newPlain(b), m: load(t, b)}
}

func (h *history) arm(n int) {
	h.m.Arm(n)
	h.p.left = n
}

func (h *history) on() {
	h.m.On()
	h.p.off, h.p.left = false, -1
}

// open takes a new cell, if the power stays; else the one that was there.
func (h *history) open(t *testing.T, max uint32) {
	want := h.p.opening(max)
	c, e := cell.Open(h.m, max)
	if e != want || (c != nil) != (want == api.OK) {
		t.Errorf("P8.1: Open: a cell: %v, %d, not %d", c != nil, e, want)
	}
	if c != nil {
		h.c = c
	}
}

func (h *history) next(t *testing.T) {
	if !h.p.open {
		return
	}
	want, wantErr := h.p.next()
	got, e := h.c.Next()
	if got != want || e != wantErr {
		t.Errorf("P8.2: Next: %d, %d, not %d, %d", got, e, want, wantErr)
	}
	if e != api.OK {
		return
	}
	if h.given && got <= h.last {
		t.Errorf("P8.3: %d comes behind %d", got, h.last)
	}
	h.last, h.given = got, true
}

// hold: all that one sees of the two.
func (h *history) hold(t *testing.T) {
	holdMem(t, h.m, h.p.b, h.p.writes, h.p.off)
	if h.p.open {
		holdValue(t, h.c, h.p.value)
	}
	if t.Failed() {
		t.Fatalf("by the script %v", h.done)
	}
}

// starts: what a memory may hold at first: nothing, leavings of cuts, words
// in one slot and in both, and bytes that nobody knows.
func starts() [][]byte {
	return [][]byte{
		make([]byte, 10),
		mixed(10),
		layout(held(0), slot{}),
		layout(slot{}, held(0)),
		layout(held(5), slot{}),
		layout(slot{}, held(5)),
		layout(held(5), slot{0, 9}),
		layout(slot{0, 9}, held(5)),
		layout(held(5), slot{0x77, 9}),
		layout(slot{0x77, 9}, held(5)),
		layout(slot{0, 9}, slot{0, 9}),
		layout(slot{0x77, 9}, slot{0, 9}),
		layout(slot{0, 9}, slot{0x77, 9}),
		layout(held(5), held(5)),
		layout(held(5), held(6)),
		layout(held(6), held(5)),
		layout(held(0x1ff), held(0x12345678)),
		layout(held(greatest-2), held(greatest-3)),
		layout(held(greatest-1), held(greatest)),
	}
}

// step: to open a cell, or to ask for a number, the power going behind 0 to 5
// writes or not; ahead of each step it is on.
func (h *history) step(t *testing.T, which int, max uint32) {
	h.done = append(h.done, which)
	h.on()
	if k := which / 2; k < 6 {
		h.arm(k)
	}
	if which%2 == 0 {
		h.open(t, max)
	} else {
		h.next(t)
	}
}

func TestEveryShortHistory(t *testing.T) {
	const things, length = 14, 3
	scripts := 1
	for range length {
		scripts *= things
	}
	for _, b := range starts() {
		// Ahead of the script: nothing, a cell, a cell that gave a number.
		for _, ahead := range [][]int{nil, {12}, {12, 13}} {
			for script := range scripts {
				h := newHistory(t, b)
				steps := append([]int(nil), ahead...)
				for rest := script; len(steps) < len(ahead)+length; rest /= things {
					steps = append(steps, rest%things)
				}
				h.run(t, steps)
			}
		}
	}
}

// run does these steps; whatever went ahead: while one is left, there is a number then.
func (h *history) run(t *testing.T, steps []int) {
	for _, which := range steps {
		h.step(t, which, greatest)
	}
	h.hold(t)
	left := h.p.greatest() < greatest
	h.step(t, 12, greatest)
	h.hold(t)
	was := h.last
	h.step(t, 13, greatest)
	h.hold(t)
	if left && h.last <= was {
		t.Fatalf("P8.3: no number, by the script %v", h.done)
	}
}

func TestTheOpeningIsCutOften(t *testing.T) {
	for _, b := range starts() {
		for first := range 6 {
			for second := range 6 {
				h := newHistory(t, b)
				h.open(t, greatest)
				h.next(t)
				for round := range 12 {
					// A cut in Next, then openings that are cut as well.
					h.step(t, 2*(round%6)+1, greatest)
					h.hold(t)
					for _, k := range []int{first, second, first} {
						h.step(t, 2*k, greatest)
						h.hold(t)
					}
					h.step(t, 12, greatest)
					h.hold(t)
					if round%3 == 0 {
						h.step(t, 13, greatest)
						h.hold(t)
					}
				}
			}
		}
	}
}

func TestNumbersBehindCuts(t *testing.T) {
	// The power goes at any write that there is, over and over: each number
	// comes all the same, just once.
	const max = 40
	for seed := range 20 {
		m := load(t, make([]byte, 10))
		s := steps(seed)
		var given []uint32
		e := api.ErrCut
		for round := 0; e == api.ErrCut && round < 10000; round++ {
			m.On()
			m.Arm(s.below(14))
			var some []uint32
			some, e = session(m, max)
			given = append(given, some...)
		}
		for i, n := range given {
			if n != uint32(i+1) {
				t.Fatalf("P8.3: %d in the place of %d, with the seed %d", n, i+1, seed)
			}
		}
		if len(given) != max {
			t.Errorf("P8.3: %d numbers, not %d, with the seed %d", len(given), max, seed)
		}
	}
}

// session: the numbers that a cell gives from its opening to its first error, and that.
func session(m *mem.Mem, max uint32) ([]uint32, api.Errno) {
	c, e := cell.Open(m, max)
	if e != api.OK {
		return nil, e
	}
	var given []uint32
	for {
		n, e := c.Next()
		if e != api.OK {
			return given, e
		}
		given = append(given, n)
	}
}

// steps answers numbers that look mixed, the same ones in every run.
type steps uint64

func (s *steps) below(n int) int {
	*s = *s*6364136223846793005 + 1442695040888963407
	return int(uint64(*s) >> 33 % uint64(n))
}

// mixedStep does any of the things that one may do to a memory and its cell.
func (h *history) mixedStep(t *testing.T, s *steps) {
	switch which := s.below(16); which {
	case 0, 1:
		h.arm(s.below(14))
	case 2, 3:
		h.on()
	case 4, 5:
		h.open(t, uint32(s.below(60)+1))
	case 6:
		h.open(t, greatest)
	case 7:
		// Off, by a write that isn't made.
		h.arm(0)
		h.m.Write(3, 1)
		h.p.put(3, 1)
	default:
		h.next(t)
	}
}

func TestCellsGoByTheDocument(t *testing.T) {
	s := steps(3)
	for round := range 10 {
		for _, b := range starts() {
			h, other := newHistory(t, append(b, mixed(round)...)), newHistory(t, make([]byte, 10))
			for range 300 {
				h.mixedStep(t, &s)
				other.mixedStep(t, &s)
				h.hold(t)
				other.hold(t)
			}
		}
	}
}

func TestSameAgain(t *testing.T) {
	// R8: two that had the same done to them look the same, whatever others do between.
	for _, b := range starts() {
		h, again, other := newHistory(t, b), newHistory(t, b), newHistory(t, b)
		s, between := steps(11), steps(5)
		for range 300 {
			same := s
			h.mixedStep(t, &s)
			other.mixedStep(t, &between)
			again.mixedStep(t, &same)
			holdMem(t, again.m, h.m.Bytes(), h.m.Writes(), h.m.Off())
			if h.c.Value() != again.c.Value() || h.last != again.last {
				t.Errorf("R8: Value %d and %d, the last number %d and %d", h.c.Value(), again.c.Value(), h.last, again.last)
			}
			again.hold(t)
		}
	}
}
