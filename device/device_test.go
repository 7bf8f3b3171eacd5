package device_test

import (
	"bytes"
	"testing"

	"parapet/api"
	"parapet/device"
	"parapet/mem"
)

func TestExamples(t *testing.T) {
	b := fresh(t, small)
	b.see(api.End{State: api.Idle})
	b.hear(wish(small), api.OK, offer(small, 1))
	b.see(api.End{State: api.Offered, Session: 1})
	b.hear(wish(small), api.ErrStale, offer(small, 1))
	b.hear(echo(small, 2), api.ErrStale, none(1))
	b.hear(echo(small, 1), api.OK, agreed(1))
	b.hear(echo(small, 1), api.OK, agreed(1))
	b.see(api.End{State: api.Agreed, Session: 1})
	b.hear(start(1), api.OK, started(1))
	b.see(api.End{State: api.Running, Session: 1, Out: []byte{0, 0}})
	b.hear(data(1, 1, 0xaa, 0xbb), api.OK, back(1, 1, 0, 0))
	b.see(api.End{State: api.Running, Session: 1, Number: 1, Sent: 1, On: true, Out: []byte{0xaa, 0xbb}})
	b.hear(data(1, 1, 0xaa, 0xbb), api.ErrStale, none(1))
	b.see(api.End{State: api.Running, Session: 1, Number: 1, Sent: 1, On: true, Out: []byte{0xaa, 0xbb}})
	b.tick(10, api.OK)
	b.see(api.End{State: api.Running, Session: 1, Number: 1, Sent: 1, Since: 10, Latched: api.ErrWatchdog})
	b.ack(api.ErrRequest)
	b.hear(data(1, 2, 1, 2), api.OK, back(1, 2, 7, 0))
	b.see(api.End{State: api.Running, Session: 1, Number: 2, Sent: 2, Latched: api.ErrWatchdog, Request: true})
	b.ack(api.OK)
	b.see(api.End{State: api.Running, Session: 1, Number: 2, Sent: 2})
	b.hear(last(1, 3), api.OK, lastBack(1, 3))
	b.see(api.End{State: api.Done, Session: 1, Number: 3, Sent: 3, Latched: api.ErrExhausted})
	b.log(5,
		record(1, api.ErrStale, 1, 0), record(2, api.ErrStale, 1, 0), record(3, api.ErrStale, 1, 1),
		record(4, api.ErrWatchdog, 1, 1), record(5, api.ErrExhausted, 1, 3))
}

// holdNoDevice: New answers this error, and no device beside it (R3).
func holdNoDevice(t *testing.T, p api.Param, m *mem.Mem, max uint32, want api.Errno) {
	t.Helper()
	was, writes, off := m.Bytes(), m.Writes(), m.Off()
	if d, e := device.New(p, m, max); d != nil || e != want {
		t.Errorf("P13.1: New(%+v, %d bytes, %d): a device: %v, %d, not %d", p, m.Size(), max, d != nil, e, want)
	}
	if want != api.ErrCut && (!bytes.Equal(m.Bytes(), was) || m.Writes() != writes || m.Off() != off) {
		t.Errorf("R4: New(%+v, .., %d) writes, and answers %d", p, max, want)
	}
}

// unlawful: one set for each fault.
var unlawful = []api.Param{
	{},
	{Code: 0, Out: 2, In: 1, Watch: 10, Count: 3},
	{Code: 7, Out: 0, In: 1, Watch: 10, Count: 3},
	{Code: 7, Out: -1, In: 1, Watch: 10, Count: 3},
	{Code: 7, Out: api.MaxData + 1, In: 1, Watch: 10, Count: 3},
	{Code: 7, Out: top, In: 1, Watch: 10, Count: 3},
	{Code: 7, Out: 2, In: 0, Watch: 10, Count: 3},
	{Code: 7, Out: 2, In: -1, Watch: 10, Count: 3},
	{Code: 7, Out: 2, In: api.MaxData + 1, Watch: 10, Count: 3},
	{Code: 7, Out: 2, In: least, Watch: 10, Count: 3},
	{Code: 7, Out: 2, In: 1, Watch: 0, Count: 3},
	{Code: 7, Out: 2, In: 1, Watch: -1, Count: 3},
	{Code: 7, Out: 2, In: 1, Watch: api.MaxTicks + 1, Count: 3},
	{Code: 7, Out: 2, In: 1, Watch: 10, Count: 1},
	{Code: 7, Out: 2, In: 1, Watch: 10, Count: 0},
}

// cutMem: a memory whose power is off.
func cutMem(t *testing.T) *mem.Mem {
	t.Helper()
	m := newMem(t)
	m.Arm(0)
	if e := m.Write(0, 1); e != api.ErrCut {
		t.Fatalf("P7.2: Write behind Arm(0): %d", e)
	}
	return m
}

func TestNewWithNoLawfulSet(t *testing.T) {
	for _, p := range unlawful {
		holdNoDevice(t, p, newMem(t), 9, api.ErrParam)
		// R2: whatever else is wrong: the chapter names the set first.
		nine, _ := mem.New(9)
		holdNoDevice(t, p, nine, 9, api.ErrParam)
		holdNoDevice(t, p, newMem(t), 0, api.ErrParam)
		holdNoDevice(t, p, cutMem(t), 9, api.ErrParam)
		holdNoDevice(t, p, nil, 9, api.ErrParam)
		// One slot is full: nothing is put right.
		half, _ := mem.Load([]byte{0xa5, 0, 0, 0, 1, 0, 0, 0, 0, 0})
		holdNoDevice(t, p, half, 9, api.ErrParam)
	}
}

func TestNewOverNoCell(t *testing.T) {
	holdNoDevice(t, small, nil, 9, api.ErrNil)
	holdNoDevice(t, small, nil, 0, api.ErrNil)
	holdNoDevice(t, small, newMem(t), 0, api.ErrRange)
	for _, n := range []int{0, 1, 9} {
		m, _ := mem.New(n)
		holdNoDevice(t, small, m, 9, api.ErrRange)
	}
	holdNoDevice(t, small, cutMem(t), 9, api.ErrCut)
	// R2: the cell's order.
	holdNoDevice(t, small, cutMem(t), 0, api.ErrRange)
}

// halves: memories in which just one slot is full, or none and a marker stands: opening writes.
var halves = []struct {
	b      []byte
	writes int
	next   uint32
}{
	{[]byte{0xa5, 0, 0, 0, 4, 0, 0, 0, 0, 0}, 6, 5},
	{[]byte{0, 0, 0, 0, 9, 0xa5, 0, 0, 0, 6, 1, 2}, 6, 7},
	{[]byte{1, 0, 0, 0, 9, 0, 0, 0, 0, 6}, 1, 1},
	{[]byte{0x5a, 0, 0, 0, 9, 2, 0, 0, 0, 6}, 2, 1},
}

func TestNewWhileThePowerGoes(t *testing.T) {
	for _, half := range halves {
		for k := range half.writes {
			m, _ := mem.Load(half.b)
			m.Arm(k)
			holdNoDevice(t, small, m, 9, api.ErrCut)
			if m.Writes() != k || !m.Off() {
				t.Errorf("P13.1: New over % x, cut behind %d: %d writes, off: %v", half.b, k, m.Writes(), m.Off())
			}
			// Nothing is kept of that: with the power on again there is a device.
			m.On()
			b := over(t, small, m, 9)
			b.see(api.End{State: api.Idle})
			b.hear(wish(small), api.OK, offer(small, half.next))
		}
		m, _ := mem.Load(half.b)
		m.Arm(half.writes)
		b := over(t, small, m, 9)
		if m.Writes() != half.writes || m.Off() {
			t.Errorf("P13.1: New over % x: %d writes, off: %v", half.b, m.Writes(), m.Off())
		}
		// The arming stays: the first write of a session is cut.
		b.hear(wish(small), api.ErrCut, nothing)
	}
}

func TestNewOverSessions(t *testing.T) {
	for _, n := range []uint32{0, 1, 7, 8} {
		b := over(t, plain, given(t, n), 9)
		b.see(api.End{State: api.Idle})
		b.log(0)
		for s := n + 1; s <= 9; s++ {
			b.bring(s, running)
			b.reset(0, api.OK)
		}
		b.hear(wish(plain), api.ErrExhausted, none(0))
	}
	for _, n := range []uint32{9, 10, 300, greatest} {
		b := over(t, plain, given(t, n), 9)
		b.see(api.End{State: api.Idle})
		b.hear(wish(plain), api.ErrExhausted, none(0))
		b.see(api.End{State: api.Done, Latched: api.ErrExhausted})
	}
	// The greatest number of all.
	b := over(t, plain, given(t, greatest-1), greatest)
	b.bring(greatest, running)
	b.see(api.End{State: api.Running, Session: greatest, Number: 1, Sent: 1, On: true, Out: b.value(0xa0)})
	b.reset(0, api.OK)
	b.hear(wish(plain), api.ErrExhausted, none(0))
	// With max 1 there is one.
	b = over(t, plain, newMem(t), 1)
	b.bring(1, done)
	b.hear(wish(plain), api.ErrExhausted, none(0))
}

// sets at the edges of what may be.
var sets = []api.Param{
	small, plain,
	{Code: 1, Out: 1, In: 1, Watch: 1, Count: 2},
	{Code: greatest, Out: api.MaxData, In: api.MaxData, Watch: api.MaxTicks, Count: greatest},
	{Code: 0x80000001, Out: 1, In: api.MaxData, Watch: 3, Count: 5},
	{Code: 256, Out: api.MaxData, In: 1, Watch: 1000, Count: 0x10000},
}

func TestNew(t *testing.T) {
	for _, p := range sets {
		m := newMem(t)
		b := over(t, p, m, 9)
		b.see(api.End{State: api.Idle})
		b.log(0)
		if got := b.d.Code(); got != p.Code {
			t.Errorf("P13.5: Code: %d, not %d", got, p.Code)
		}
		if m.Writes() != 0 || m.Off() {
			t.Errorf("P13.1: New: %d writes, off: %v", m.Writes(), m.Off())
		}
		// The application's value is as many bytes 0, and it wants no hold.
		b.bring(1, begun)
		b.hear(data(1, 1, b.value(1)...), api.OK, back(1, 1, 0, make([]byte, p.In)...))
	}
}

func TestEachPlaceLooks(t *testing.T) {
	for _, p := range sets {
		for _, place := range places {
			b := at(t, p, place)
			b.see(looks(p, place))
			b.log(noted(place))
			if got := b.d.Code(); got != p.Code {
				t.Errorf("P13.5: Code while it is %s: %d, not %d", place, got, p.Code)
			}
		}
	}
}

func TestNil(t *testing.T) {
	var d *device.Device
	b := &bench{t: t, set: small}
	for _, n := range []int{0, 1, -1, top, least} {
		b.holdErr("P13.2", "Reset of nil", d.Reset(n), api.ErrNil)
		b.holdErr("P13.4", "Tick of nil", d.Tick(n), api.ErrNil)
	}
	for _, frame := range [][]byte{nil, {}, {1}, make([]byte, 19), make([]byte, 99), b.frame(wish(small)), b.frame(data(1, 1, 1, 2))} {
		if answer, e := d.Receive(frame); len(answer) != 0 || e != api.ErrNil {
			t.Errorf("P13.3: Receive of nil: % x, %d, not none, %d", answer, e, api.ErrNil)
		}
	}
	for n := range api.MaxData + 2 {
		b.holdErr("P13.4", "Write of nil", d.Write(make([]byte, n), n%2 == 0), api.ErrNil)
	}
	b.holdErr("P13.4", "Write of nil", d.Write(nil, false), api.ErrNil)
	b.holdErr("P13.4", "Ack of nil", d.Ack(), api.ErrNil)
	if got := d.Code(); got != 0 {
		t.Errorf("R7: Code of nil: %d", got)
	}
	if got := d.See(); !sameEnd(got, api.End{}) {
		t.Errorf("R7: See of nil: %+v", got)
	}
	if got, n := d.Log(); len(got) != 0 || n != 0 {
		t.Errorf("R7: Log of nil: %v, %d", got, n)
	}
}

// One that New hasn't made: nothing is promised but that no call panics (P1).
func TestNotMade(t *testing.T) {
	b := &bench{t: t, set: small}
	for range 2 {
		d := new(device.Device)
		for _, u := range []api.Unit{wish(small), echo(small, 1), start(1), data(1, 1, 1, 2), last(1, 3), offer(small, 1)} {
			d.Receive(b.frame(u))
		}
		d.Receive(nil)
		d.Write(nil, true)
		d.Write([]byte{1}, true)
		d.Tick(5)
		d.Tick(-1)
		d.Ack()
		d.See()
		d.Log()
		d.Code()
		d.Reset(-1)
		d.Reset(0)
		d.Reset(5)
		d.Receive(b.frame(wish(small)))
		d.See()
	}
}
