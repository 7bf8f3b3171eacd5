package device_test

import (
	"bytes"
	"math"
	"slices"
	"testing"

	"parapet/api"
	"parapet/cell"
	"parapet/device"
	"parapet/mem"
	"parapet/param"
	"parapet/unit"
)

const (
	greatest = math.MaxUint32
	top      = math.MaxInt64
	least    = math.MinInt64
)

// The chapter's set, and one with more numbers.
var (
	small = api.Param{Code: 7, Out: 2, In: 1, Watch: 10, Count: 3}
	plain = api.Param{Code: 7, Out: 2, In: 1, Watch: 10, Count: 100}
)

// bench is a device over its memory, and what it is held against.
type bench struct {
	t   *testing.T
	set api.Param
	m   *mem.Mem
	d   *device.Device
}

// newMem: a memory of 16 bytes 0.
func newMem(t *testing.T) *mem.Mem {
	t.Helper()
	m, e := mem.New(16)
	if e != api.OK {
		t.Fatalf("P7.1: New(16): %d", e)
	}
	return m
}

// given: a memory whose cell has given n sessions.
func given(t *testing.T, n uint32) *mem.Mem {
	t.Helper()
	m, _ := mem.Load([]byte{0xa5, byte(n >> 24), byte(n >> 16), byte(n >> 8), byte(n), 0xa5, 0, 0, 0, 0, 0, 0})
	c, e := cell.Open(m, greatest)
	if e != api.OK || c.Value() != n {
		t.Fatalf("P8.1: Open: %d, value %d", e, c.Value())
	}
	return m
}

// over: a device with this set over this memory.
func over(t *testing.T, p api.Param, m *mem.Mem, max uint32) *bench {
	t.Helper()
	d, e := device.New(p, m, max)
	if d == nil || e != api.OK {
		t.Fatalf("P13.1: New(%+v, % x, %d): a device: %v, %d", p, m.Bytes(), max, d != nil, e)
	}
	return &bench{t: t, set: p, m: m, d: d}
}

// fresh: a device with this set over a new memory, with sessions up to 9.
func fresh(t *testing.T, p api.Param) *bench {
	t.Helper()
	return over(t, p, newMem(t), 9)
}

// signature: the bytes of the set's signature.
func signature(p api.Param) []byte {
	s, _ := param.Signature(p)
	return param.Bytes(s)
}

// wrong: four bytes that aren't.
func wrong(p api.Param) []byte {
	b := signature(p)
	b[3] ^= 1
	return b
}

// The host's units; encode puts the code of a bench's set.

func wish(p api.Param) api.Unit { return api.Unit{Kind: api.HostParam, Data: signature(p)} }

func echo(p api.Param, session uint32) api.Unit {
	return api.Unit{Kind: api.HostEcho, Session: session, Data: signature(p)}
}

func start(session uint32) api.Unit { return api.Unit{Kind: api.HostStart, Session: session} }

func data(session, number uint32, b ...byte) api.Unit {
	return api.Unit{Kind: api.HostData, Session: session, Number: number, Data: b}
}

func last(session, number uint32) api.Unit {
	return api.Unit{Kind: api.HostLast, Session: session, Number: number}
}

// with: the unit, with these flags.
func with(u api.Unit, flags int) api.Unit {
	u.Flags = flags
	return u
}

// The device's.

func offer(p api.Param, session uint32) api.Unit {
	return api.Unit{Kind: api.DevOffer, Session: session, Data: signature(p)}
}

func agreed(session uint32) api.Unit  { return api.Unit{Kind: api.DevAgreed, Session: session} }
func started(session uint32) api.Unit { return api.Unit{Kind: api.DevStarted, Session: session} }
func none(session uint32) api.Unit    { return api.Unit{Kind: api.DevNone, Session: session} }

func back(session, number uint32, flags int, b ...byte) api.Unit {
	return api.Unit{Kind: api.DevData, Session: session, Number: number, Flags: flags, Data: b}
}

func lastBack(session, number uint32) api.Unit {
	return api.Unit{Kind: api.DevLast, Session: session, Number: number}
}

// nothing: no answer.
var nothing api.Unit

// encode: the unit's frame, with this code, unless it has one of its own.
func encode(t *testing.T, u api.Unit, code uint32) []byte {
	t.Helper()
	if u.Code == 0 {
		u.Code = code
	}
	b, e := unit.Encode(u)
	if e != api.OK {
		t.Fatalf("P4.3: Encode(%+v): %d", u, e)
	}
	return b
}

func (b *bench) frame(u api.Unit) []byte {
	b.t.Helper()
	return encode(b.t, u, b.set.Code)
}

// hear: a unit comes, and is answered so.
func (b *bench) hear(u api.Unit, want api.Errno, answer api.Unit) {
	b.t.Helper()
	b.hearBytes(b.frame(u), want, answer)
}

func (b *bench) hearBytes(frame []byte, want api.Errno, answer api.Unit) {
	b.t.Helper()
	var wanted []byte
	if answer.Kind != 0 {
		wanted = b.frame(answer)
	}
	got, e := b.d.Receive(frame)
	if e != want || !bytes.Equal(got, wanted) {
		b.t.Fatalf("P13.3: Receive(% x): % x, %d, not % x, %d", frame, got, e, wanted, want)
	}
}

func sameEnd(a, b api.End) bool {
	if !bytes.Equal(a.Out, b.Out) {
		return false
	}
	a.Out, b.Out = nil, nil
	return a.State == b.State && a.Session == b.Session && a.Number == b.Number && a.Sent == b.Sent &&
		a.Since == b.Since && a.Latched == b.Latched && a.Request == b.Request && a.On == b.On
}

// see: it looks so; twice, since looking changes nothing.
func (b *bench) see(want api.End) {
	b.t.Helper()
	if want.Out == nil {
		want.Out = make([]byte, b.set.Out)
	}
	for range 2 {
		if got := b.d.See(); !sameEnd(got, want) {
			b.t.Fatalf("P13.5: See: %+v, not %+v", got, want)
		}
	}
}

// log: as many were noted, and these were the last ones.
func (b *bench) log(total int, want ...api.Record) {
	b.t.Helper()
	for range 2 {
		got, n := b.d.Log()
		if n != total || len(got) < len(want) || len(got) != min(total, api.MaxRecords) {
			b.t.Fatalf("P13.5: Log: %v, %d, not %d with %v last", got, n, total, want)
		}
		if got = got[len(got)-len(want):]; !slices.Equal(got, want) {
			b.t.Fatalf("P13.5: Log: the last ones: %v, not %v", got, want)
		}
	}
}

// record: the At-th.
func record(at int, code api.Errno, session, number uint32) api.Record {
	return api.Record{At: at, Code: code, Session: session, Number: number}
}

// holdErr: an error, or OK.
func (b *bench) holdErr(promise, call string, got, want api.Errno) {
	b.t.Helper()
	if got != want {
		b.t.Fatalf("%s: %s: %d, not %d", promise, call, got, want)
	}
}

func (b *bench) tick(n int, want api.Errno) {
	b.t.Helper()
	b.holdErr("P13.4", "Tick", b.d.Tick(n), want)
}

func (b *bench) ack(want api.Errno) {
	b.t.Helper()
	b.holdErr("P13.4", "Ack", b.d.Ack(), want)
}

func (b *bench) write(value []byte, hold bool, want api.Errno) {
	b.t.Helper()
	b.holdErr("P13.4", "Write", b.d.Write(value, hold), want)
}

func (b *bench) reset(n int, want api.Errno) {
	b.t.Helper()
	b.holdErr("P13.2", "Reset", b.d.Reset(n), want)
}

// value: as many bytes as the host sends, beginning so.
func (b *bench) value(first byte) []byte {
	v := make([]byte, b.set.Out)
	for i := range v {
		v[i] = first + byte(i)
	}
	return v
}

// The places where a device can stand, and how it is brought there from its
// beginning: in session 1, without an odd unit.
const (
	idle    = "Idle"
	offered = "Offered"
	inAgree = "Agreed"
	begun   = "Running with the number 0"
	running = "Running behind number 1"
	done    = "Done behind the last number"
	empty   = "Done without a session left"
	down    = "Down"
)

var places = []string{idle, offered, inAgree, begun, running, done, empty, down}

// at: a device in that place, with nothing in its records, but for what empty brings.
func at(t *testing.T, p api.Param, place string) *bench {
	t.Helper()
	if place == empty {
		b := over(t, p, given(t, 9), 9)
		b.hear(wish(p), api.ErrExhausted, none(0))
		return b
	}
	b := fresh(t, p)
	b.bring(1, place)
	return b
}

// bring: from Idle on, in this session, which is the next one.
func (b *bench) bring(session uint32, place string) {
	b.t.Helper()
	if place == idle {
		return
	}
	if place == down {
		b.m.Arm(0)
		b.hear(wish(b.set), api.ErrCut, nothing)
		return
	}
	b.hear(wish(b.set), api.OK, offer(b.set, session))
	if place == offered {
		return
	}
	b.hear(echo(b.set, session), api.OK, agreed(session))
	if place == inAgree {
		return
	}
	b.hear(start(session), api.OK, started(session))
	switch place {
	case running:
		if _, e := b.d.Receive(b.frame(data(session, 1, b.value(0xa0)...))); e != api.OK {
			b.t.Fatalf("P13.3: number 1: %d", e)
		}
	case done:
		b.hear(last(session, b.set.Count), api.OK, lastBack(session, b.set.Count))
	}
}

// giveUp: an odd unit, as often as it takes to be Idle.
func (b *bench) giveUp(session uint32, u api.Unit) {
	b.t.Helper()
	for range api.ResyncMax - 1 {
		b.hear(u, api.ErrStale, none(session))
	}
	b.hear(u, api.ErrStale, none(0))
	if got := b.d.See(); got.State != api.Idle {
		b.t.Fatalf("P13.3: behind %d odd units: %+v", api.ResyncMax, got)
	}
}

// looks: how a device that at has brought there looks.
func looks(p api.Param, place string) api.End {
	switch place {
	case idle:
		return api.End{State: api.Idle}
	case offered:
		return api.End{State: api.Offered, Session: 1}
	case inAgree:
		return api.End{State: api.Agreed, Session: 1}
	case begun:
		return api.End{State: api.Running, Session: 1}
	case running:
		b := bench{set: p}
		return api.End{State: api.Running, Session: 1, Number: 1, Sent: 1, On: true, Out: b.value(0xa0)}
	case done:
		return api.End{State: api.Done, Session: 1, Number: p.Count, Sent: p.Count, Latched: api.ErrExhausted}
	case empty:
		return api.End{State: api.Done, Latched: api.ErrExhausted}
	}
	return api.End{State: api.Down}
}

// noted: how many records a device that at has brought there has.
func noted(place string) int {
	switch place {
	case done:
		return 1
	case empty:
		return 2
	}
	return 0
}
