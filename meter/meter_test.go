package meter_test

import (
	"math"
	"testing"

	"parapet/api"
	"parapet/meter"
)

const (
	most  = math.MaxUint64
	least = math.MinInt64
	top   = math.MaxInt64
	all   = math.MaxUint32
)

var none = api.Record{}

// look is all that one sees of a meter.
type look struct {
	total  uint64
	peak   int64
	raised bool
	flags  uint32
	on     bool
	last   api.Record
	noted  bool
}

func lookAt(m *meter.Meter) look {
	var l look
	l.total, l.flags, l.on = m.Total(), m.Flags(), m.On()
	l.peak, l.raised = m.Peak()
	l.last, l.noted = m.Last()
	return l
}

func holdLook(t *testing.T, promise string, m *meter.Meter, want look) {
	t.Helper()
	// Twice: looking changes nothing.
	for range 2 {
		if got := lookAt(m); got != want {
			t.Errorf("%s: the meter holds %+v, not %+v", promise, got, want)
		}
	}
}

func holdAdd(t *testing.T, m *meter.Meter, n, want uint64) {
	t.Helper()
	if got, e := m.Add(n); got != want || e != api.OK {
		t.Errorf("P5.1: Add(%d): %d, %d, not %d", n, got, e, want)
	}
	holdTotal(t, m, want)
}

func holdSwap(t *testing.T, m *meter.Meter, n, want uint64) {
	t.Helper()
	if got, e := m.Swap(n); got != want || e != api.OK {
		t.Errorf("P5.1: Swap(%d): %d, %d, not %d", n, got, e, want)
	}
	holdTotal(t, m, n)
}

func holdMove(t *testing.T, m *meter.Meter, from, to uint64, want bool) {
	t.Helper()
	total := m.Total()
	if want {
		total = to
	}
	if got := m.Move(from, to); got != want {
		t.Errorf("P5.1: Move(%d, %d): %v, not %v", from, to, got, want)
	}
	holdTotal(t, m, total)
}

func holdTotal(t *testing.T, m *meter.Meter, want uint64) {
	t.Helper()
	if got := m.Total(); got != want {
		t.Errorf("P5.1: Total: %d, not %d", got, want)
	}
}

// holdRaise: of a Raise and the peak behind it.
func holdRaise(t *testing.T, m *meter.Meter, v int64, want bool, peak int64) {
	t.Helper()
	if got := m.Raise(v); got != want {
		t.Errorf("P5.2: Raise(%d): %v, not %v", v, got, want)
	}
	if got, ok := m.Peak(); got != peak || !ok {
		t.Errorf("P5.2: Peak behind Raise(%d): %d, %v, not %d, true", v, got, ok, peak)
	}
}

// holdSet: of a Set, what was up and what is.
func holdSet(t *testing.T, m *meter.Meter, bits, was, is uint32) {
	t.Helper()
	if got := m.Set(bits); got != was {
		t.Errorf("P5.3: Set(%#x): %#x, not %#x", bits, got, was)
	}
	holdFlags(t, m, is)
}

// holdClear: of a Clear, what was up and what is.
func holdClear(t *testing.T, m *meter.Meter, bits, was, is uint32) {
	t.Helper()
	if got := m.Clear(bits); got != was {
		t.Errorf("P5.3: Clear(%#x): %#x, not %#x", bits, got, was)
	}
	holdFlags(t, m, is)
}

func holdFlags(t *testing.T, m *meter.Meter, want uint32) {
	t.Helper()
	if got := m.Flags(); got != want {
		t.Errorf("P5.3: Flags: %#x, not %#x", got, want)
	}
}

func holdTurn(t *testing.T, m *meter.Meter, on, was bool) {
	t.Helper()
	if got := m.Turn(on); got != was {
		t.Errorf("P5.4: Turn(%v): %v, not %v", on, got, was)
	}
	if got := m.On(); got != on {
		t.Errorf("P5.4: On behind Turn(%v): %v", on, got)
	}
}

// holdNote: of a Note, which record was the last one, or none.
func holdNote(t *testing.T, m *meter.Meter, r, was api.Record, noted bool) {
	t.Helper()
	if got, ok := m.Note(r); got != was || ok != noted {
		t.Errorf("P5.5: Note(%+v): %+v, %v, not %+v, %v", r, got, ok, was, noted)
	}
	if got, ok := m.Last(); got != r || !ok {
		t.Errorf("P5.5: Last behind Note(%+v): %+v, %v", r, got, ok)
	}
}

func TestExamples(t *testing.T) {
	m := meter.New()
	holdAdd(t, m, 5, 5)
	holdAdd(t, m, most, most)
	holdSwap(t, m, 3, most)
	holdMove(t, m, 4, 9, false)
	holdMove(t, m, 3, 9, true)
	holdTotal(t, m, 9)
	holdRaise(t, m, -4, true, -4)
	holdRaise(t, m, -9, false, -4)
	holdRaise(t, m, -4, false, -4)
	holdSet(t, m, 6, 0, 6)
	holdClear(t, m, 3, 6, 4)
	holdTurn(t, m, true, false)
	holdTurn(t, m, true, true)
	holdLook(t, "P5.5", m, look{total: 9, peak: -4, raised: true, flags: 4, on: true})
}

func TestNew(t *testing.T) {
	m := meter.New()
	if m == nil {
		t.Fatal("New: nil")
	}
	holdLook(t, "P5.1 to P5.5: a new one", m, look{})
	// What was done to another one isn't there in a new one.
	fillUp(m)
	holdLook(t, "P5.1 to P5.5: a new one", meter.New(), look{})
}

// fillUp makes all that a meter holds unlike a new one's.
func fillUp(m *meter.Meter) look {
	r := api.Record{At: 1, Code: api.ErrStale, Session: 2, Number: 3}
	m.Swap(7)
	m.Raise(8)
	m.Set(9)
	m.Turn(true)
	m.Note(r)
	return look{total: 7, peak: 8, raised: true, flags: 9, on: true, last: r, noted: true}
}

func TestAdd(t *testing.T) {
	m := meter.New()
	holdAdd(t, m, 0, 0)
	holdAdd(t, m, 1, 1)
	holdAdd(t, m, 0, 1)
	holdAdd(t, m, 1<<32, 1<<32+1)
	holdAdd(t, m, 1<<63, 1<<63+1<<32+1)
	holdAdd(t, m, 1, 1<<63+1<<32+2)
}

func TestAddUpToTheGreatest(t *testing.T) {
	for _, c := range []struct{ count, n, want uint64 }{
		{0, most - 1, most - 1},
		{0, most, most},
		{1, most - 2, most - 1},
		{1, most - 1, most},
		{1, most, most},
		{2, most - 1, most},
		{most - 1, 0, most - 1},
		{most - 1, 1, most},
		{most - 1, 2, most},
		{most - 1, 3, most},
		{most - 1, most - 1, most},
		{most - 1, most, most},
		{most, 0, most},
		{most, 1, most},
		{most, 2, most},
		{most, most - 1, most},
		{most, most, most},
		{1<<63 - 1, 1 << 63, most},
		{1 << 63, 1<<63 - 1, most},
		{1 << 63, 1<<63 - 2, most - 1},
		{1 << 63, 1 << 63, most},
		{1 << 63, 1<<63 + 1, most},
	} {
		m := meter.New()
		holdSwap(t, m, c.count, 0)
		holdAdd(t, m, c.n, c.want)
		// It comes there by Add too, and stays there if it is the greatest.
		m = meter.New()
		holdAdd(t, m, c.count, c.count)
		holdAdd(t, m, c.n, c.want)
		if c.want == most {
			holdAdd(t, m, 1, most)
			holdAdd(t, m, most, most)
			holdAdd(t, m, 0, most)
		}
	}
}

func TestSwap(t *testing.T) {
	m := meter.New()
	last := uint64(0)
	for _, n := range []uint64{0, 1, 1, 0, most, most, most - 1, 1 << 63, 0, 5} {
		holdSwap(t, m, n, last)
		last = n
	}
	// Back from the greatest number, Adds count again.
	holdSwap(t, m, most, 5)
	holdAdd(t, m, 4, most)
	holdSwap(t, m, most-4, most)
	holdAdd(t, m, 3, most-1)
}

func TestMove(t *testing.T) {
	for _, count := range []uint64{0, 1, 2, 100, 1 << 32, 1<<63 - 1, 1 << 63, most - 1, most} {
		for _, to := range []uint64{0, 1, count - 1, count, count + 1, ^count, most} {
			m := meter.New()
			holdSwap(t, m, count, 0)
			// Its neighbours, and numbers that are like it in part.
			for _, from := range []uint64{count - 1, count + 1, ^count, count ^ 1<<32, count ^ 1<<63} {
				holdMove(t, m, from, to, false)
			}
			holdMove(t, m, count, to, true)
			holdMove(t, m, count, to, count == to)
			holdMove(t, m, to, to, true)
		}
	}
}

func TestMoveOfANewOne(t *testing.T) {
	m := meter.New()
	holdMove(t, m, 1, 2, false)
	holdMove(t, m, most, 2, false)
	holdMove(t, m, 0, 0, true)
	holdMove(t, m, 0, most, true)
	holdAdd(t, m, 1, most)
	holdMove(t, m, most, 6, true)
	holdAdd(t, m, 1, 7)
}

func TestFirstRaise(t *testing.T) {
	for _, v := range []int64{least, least + 1, -1 << 32, -2, -1, 0, 1, 2, 1 << 32, top - 1, top} {
		m := meter.New()
		if got, ok := m.Peak(); got != 0 || ok {
			t.Errorf("P5.2: Peak of a new one: %d, %v", got, ok)
		}
		holdRaise(t, m, v, true, v)
		holdRaise(t, m, v, false, v)
		holdRaise(t, m, least, false, v)
		if v > least {
			holdRaise(t, m, v-1, false, v)
		}
		if v < top {
			holdRaise(t, m, v+1, true, v+1)
			holdRaise(t, m, v, false, v+1)
			holdRaise(t, m, top, v+1 < top, top)
		}
		holdRaise(t, m, top, false, top)
	}
}

func TestRaises(t *testing.T) {
	m := meter.New()
	for _, c := range []struct {
		v    int64
		want bool
		peak int64
	}{
		{least, true, least},
		{least, false, least},
		{-1 << 40, true, -1 << 40},
		{-7, true, -7},
		{-8, false, -7},
		{-1, true, -1},
		{0, true, 0},
		{0, false, 0},
		{-1, false, 0},
		{1, true, 1},
		{0, false, 1},
		{1 << 40, true, 1 << 40},
		{1<<40 - 1, false, 1 << 40},
		{1<<40 + 1, true, 1<<40 + 1},
		{top, true, top},
		{least, false, top},
	} {
		holdRaise(t, m, c.v, c.want, c.peak)
	}
}

func TestFlags(t *testing.T) {
	m := meter.New()
	holdSet(t, m, 0, 0, 0)
	holdClear(t, m, 0, 0, 0)
	holdClear(t, m, all, 0, 0)
	holdSet(t, m, 0x80000001, 0, 0x80000001)
	holdSet(t, m, 0x80000001, 0x80000001, 0x80000001)
	holdSet(t, m, 0, 0x80000001, 0x80000001)
	holdClear(t, m, 0, 0x80000001, 0x80000001)
	// Some that are up already, some that aren't; the others stay as they are.
	holdSet(t, m, 3, 0x80000001, 0x80000003)
	holdClear(t, m, 6, 0x80000003, 0x80000001)
	holdClear(t, m, 6, 0x80000001, 0x80000001)
	holdSet(t, m, all, 0x80000001, all)
	holdSet(t, m, all, all, all)
	holdSet(t, m, 5, all, all)
	holdClear(t, m, 0, all, all)
	holdClear(t, m, 0x00ff0000, all, 0xff00ffff)
	holdClear(t, m, all, 0xff00ffff, 0)
	holdClear(t, m, all, 0, 0)
}

func TestEachFlag(t *testing.T) {
	m := meter.New()
	up := uint32(0)
	for i := range 32 {
		holdSet(t, m, 1<<i, up, up|1<<i)
		up |= 1 << i
	}
	holdFlags(t, m, all)
	for i := range 32 {
		holdClear(t, m, 1<<i, up, up&^(1<<i))
		up &^= 1 << i
	}
	holdFlags(t, m, 0)
}

func TestSwitch(t *testing.T) {
	m := meter.New()
	was := false
	for _, on := range []bool{false, false, true, true, true, false, false, true, false} {
		holdTurn(t, m, on, was)
		was = on
	}
}

func TestRecords(t *testing.T) {
	m := meter.New()
	if r, ok := m.Last(); r != none || ok {
		t.Errorf("P5.5: Last of a new one: %+v, %v", r, ok)
	}
	// A zero record is one, too.
	last, noted := none, false
	for _, r := range []api.Record{
		none,
		none,
		{At: 1},
		{Code: api.ErrStale},
		{Session: math.MaxUint32},
		{Number: math.MaxUint32},
		{At: math.MinInt, Code: math.MinInt, Session: 1, Number: 2},
		{At: math.MaxInt, Code: math.MaxInt, Session: 2, Number: 1},
		{At: math.MaxInt, Code: math.MaxInt, Session: 2, Number: 1},
		none,
		{At: 4, Code: 3, Session: 2, Number: 1},
	} {
		holdNote(t, m, r, last, noted)
		last, noted = r, true
	}
}

func TestRecordsAreCopies(t *testing.T) {
	m := meter.New()
	r := api.Record{At: 1, Code: 2, Session: 3, Number: 4}
	want := r
	m.Note(r)
	r.At, r.Number = 9, 9
	got, _ := m.Last()
	got.Code, got.Session = 9, 9
	if again, ok := m.Last(); again != want || !ok {
		t.Errorf("R6: the last record %+v became %+v, %v", want, again, ok)
	}
	m.Note(r)
	first, _ := m.Note(want)
	first.At = 77
	if again, ok := m.Last(); again != want || !ok {
		t.Errorf("R6: the last record %+v became %+v, %v", want, again, ok)
	}
}

func TestEachStandsForItself(t *testing.T) {
	m := meter.New()
	want := fillUp(m)
	for _, step := range []func(){
		func() { m.Add(5); want.total += 5 },
		func() { m.Raise(50); want.peak = 50 },
		func() { m.Set(0xf0); want.flags |= 0xf0 },
		func() { m.Clear(0x11); want.flags &^= 0x11 },
		func() { m.Turn(false); want.on = false },
		func() { m.Note(none); want.last = none },
		func() { m.Move(12, 0); want.total = 0 },
		func() { m.Swap(most); want.total = most },
		func() { m.Turn(true); want.on = true },
		func() { m.Clear(all); want.flags = 0 },
	} {
		step()
		holdLook(t, "P5.1 to P5.5: one of them alone was touched", m, want)
	}
}

func TestNil(t *testing.T) {
	other := meter.New()
	want := fillUp(other)
	var m *meter.Meter
	// Twice: the calls ahead of it have changed nothing.
	for range 2 {
		holdLook(t, "R7", m, look{})
		for _, n := range []uint64{0, 1, 7, most} {
			if got, e := m.Add(n); got != 0 || e != api.ErrNil {
				t.Errorf("R7: Add(%d) of nil: %d, %d", n, got, e)
			}
			if got, e := m.Swap(n); got != 0 || e != api.ErrNil {
				t.Errorf("R7: Swap(%d) of nil: %d, %d", n, got, e)
			}
			if m.Move(0, n) || m.Move(n, 0) || m.Move(n, n) {
				t.Errorf("R7: Move with %d of nil: true", n)
			}
		}
		for _, v := range []int64{least, -1, 0, 1, top} {
			if m.Raise(v) {
				t.Errorf("R7: Raise(%d) of nil: true", v)
			}
		}
		for _, bits := range []uint32{0, 1, 9, all} {
			if set, clear := m.Set(bits), m.Clear(bits); set != 0 || clear != 0 {
				t.Errorf("R7: Set, Clear(%#x) of nil: %#x, %#x", bits, set, clear)
			}
			m.Set(bits)
		}
		if m.Turn(false) || m.Turn(true) || m.Turn(true) {
			t.Error("R7: Turn of nil: true")
		}
		for _, r := range []api.Record{none, {At: 1, Code: 2, Session: 3, Number: 4}, none} {
			if got, ok := m.Note(r); got != none || ok {
				t.Errorf("R7: Note(%+v) of nil: %+v, %v", r, got, ok)
			}
		}
		holdLook(t, "R7", m, look{})
	}
	holdLook(t, "R7: another meter, used ahead of a nil one", other, want)
	holdLook(t, "R7: a new meter, made behind a nil one's use", meter.New(), look{})
}

func TestTwoInTurns(t *testing.T) {
	a, b := meter.New(), meter.New()
	holdAdd(t, a, 5, 5)
	holdAdd(t, b, 7, 7)
	holdAdd(t, a, 1, 6)
	holdSwap(t, b, 6, 7)
	holdMove(t, a, 6, 60, true)
	holdMove(t, b, 60, 1, false)
	holdMove(t, b, 6, 61, true)
	holdRaise(t, a, 9, true, 9)
	holdRaise(t, b, 3, true, 3)
	holdRaise(t, a, 4, false, 9)
	holdRaise(t, b, 4, true, 4)
	holdSet(t, a, 1, 0, 1)
	holdSet(t, b, 2, 0, 2)
	holdClear(t, a, 3, 1, 0)
	holdClear(t, b, 1, 2, 2)
	holdTurn(t, a, true, false)
	holdTurn(t, b, false, false)
	holdNote(t, a, api.Record{At: 1}, none, false)
	holdNote(t, b, api.Record{At: 2}, none, false)
	holdNote(t, a, api.Record{At: 3}, api.Record{At: 1}, true)
	holdLook(t, "R8: the first of two", a, look{total: 60, peak: 9, raised: true, on: true, last: api.Record{At: 3}, noted: true})
	holdLook(t, "R8: the second of two", b, look{total: 61, peak: 4, raised: true, flags: 2, last: api.Record{At: 2}, noted: true})
}

// model is a meter by the document's words, for one at a time.
type model struct{ look }

func (w *model) add(n uint64) uint64 {
	if w.total+n < n {
		w.total = most
	} else {
		w.total += n
	}
	return w.total
}

func (w *model) move(from, to uint64) bool {
	if w.total != from {
		return false
	}
	w.total = to
	return true
}

func (w *model) raise(v int64) bool {
	if w.raised && w.peak >= v {
		return false
	}
	w.peak, w.raised = v, true
	return true
}

// chance gives numbers that are the same at each run.
type chance struct{ x uint64 }

func (c *chance) next() uint64 {
	c.x = c.x*6364136223846793005 + 1442695040888963407
	return c.x ^ c.x>>29
}

// number: near one of the edges or near the count.
func (c *chance) number(count uint64) uint64 {
	near := []uint64{0, 1 << 32, 1 << 63, most, count, ^count, c.next()}
	return near[c.next()>>8%uint64(len(near))] + c.next()>>8%3 - 1
}

// step does one thing to the meter and to its model, and tells whether they answered alike.
func (w *model) step(m *meter.Meter, c *chance) bool {
	n, k := c.number(w.total), c.number(w.total)
	bits := uint32(c.next()>>16) & uint32(c.next()>>16)
	before := w.look
	switch c.next() >> 8 % 8 {
	case 0:
		got, e := m.Add(n)
		return got == w.add(n) && e == api.OK
	case 1:
		got, e := m.Swap(n)
		w.total = n
		return got == before.total && e == api.OK
	case 2:
		return m.Move(n, k) == w.move(n, k)
	case 3:
		// Low ones at first, so that the peak is raised more than once or twice.
		v := int64(n) >> (c.next() >> 8 % 64)
		return m.Raise(v) == w.raise(v)
	case 4:
		w.flags |= bits
		return m.Set(bits) == before.flags
	case 5:
		w.flags &^= bits
		return m.Clear(bits) == before.flags
	case 6:
		w.on = n%2 == 0
		return m.Turn(w.on) == before.on
	}
	w.last = api.Record{At: int(n), Code: api.Errno(k), Session: bits, Number: uint32(n >> 7)}
	w.noted = true
	got, ok := m.Note(w.last)
	return got == before.last && ok == before.noted
}

func TestAgainstTheModel(t *testing.T) {
	for round := range uint64(400) {
		c := chance{round}
		meters := []*meter.Meter{meter.New(), meter.New(), meter.New()}
		models := make([]model, len(meters))
		for i := range 300 {
			which := c.next() >> 8 % uint64(len(meters))
			before := models[which]
			if !models[which].step(meters[which], &c) {
				t.Fatalf("P5.1 to P5.5: round %d, step %d, from %+v: another answer than the model's, which then is %+v", round, i, before, models[which])
			}
			for j, m := range meters {
				if got := lookAt(m); got != models[j].look {
					t.Fatalf("P5.1 to P5.5: round %d, step %d, meter %d: %+v, not %+v", round, i, j, got, models[j])
				}
			}
		}
	}
}
