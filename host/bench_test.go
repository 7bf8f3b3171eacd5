package host_test

import (
	"bytes"
	"math"
	"slices"
	"testing"

	"parapet/api"
	"parapet/host"
	"parapet/param"
	"parapet/unit"
)

const (
	greatest = math.MaxUint32
	top      = math.MaxInt64
	least    = math.MinInt64
)

// The chapter's set, and one with more numbers.
var (
	small = api.Param{Code: 7, Out: 2, In: 1, Watch: 10, Count: 3}
	plain = api.Param{Code: 7, Out: 2, In: 1, Watch: 10, Count: 100}
)

// sets at the edges of what may be.
var sets = []api.Param{
	small, plain,
	{Code: 1, Out: 1, In: 1, Watch: 1, Count: 2},
	{Code: greatest, Out: api.MaxData, In: api.MaxData, Watch: api.MaxTicks, Count: greatest},
	{Code: 0x80000001, Out: 1, In: api.MaxData, Watch: 3, Count: 5},
	{Code: 256, Out: api.MaxData, In: 1, Watch: 1000, Count: 0x10000},
}

// bench is a host, and what it is held against.
type bench struct {
	t   *testing.T
	set api.Param
	h   *host.Host
}

// fresh: a new host with this set.
func fresh(t *testing.T, p api.Param) *bench {
	t.Helper()
	h, e := host.New(p)
	if h == nil || e != api.OK {
		t.Fatalf("P14.1: New(%+v): a host: %v, %d", p, h != nil, e)
	}
	return &bench{t: t, set: p, h: h}
}

// signature: the bytes of the set's signature.
func signature(p api.Param) []byte {
	s, _ := param.Signature(p)
	return param.Bytes(s)
}

// wrong: four bytes that aren't.
func wrong(p api.Param) []byte {
	b := signature(p)
	b[3] ^= 1
	return b
}

// The host's units; encode puts the code of a bench's set.

func wish(p api.Param) api.Unit { return api.Unit{Kind: api.HostParam, Data: signature(p)} }

func echo(p api.Param, session uint32) api.Unit {
	return api.Unit{Kind: api.HostEcho, Session: session, Data: signature(p)}
}

func start(session uint32) api.Unit { return api.Unit{Kind: api.HostStart, Session: session} }

func data(session, number uint32, flags int, b ...byte) api.Unit {
	return api.Unit{Kind: api.HostData, Session: session, Number: number, Flags: flags, Data: b}
}

func last(session, number uint32) api.Unit {
	return api.Unit{Kind: api.HostLast, Session: session, Number: number}
}

// The device's.

func offer(p api.Param, session uint32) api.Unit {
	return api.Unit{Kind: api.DevOffer, Session: session, Data: signature(p)}
}

// unsigned: an offer with another signature.
func unsigned(p api.Param, session uint32) api.Unit {
	return api.Unit{Kind: api.DevOffer, Session: session, Data: wrong(p)}
}

func agreed(session uint32) api.Unit  { return api.Unit{Kind: api.DevAgreed, Session: session} }
func started(session uint32) api.Unit { return api.Unit{Kind: api.DevStarted, Session: session} }
func none(session uint32) api.Unit    { return api.Unit{Kind: api.DevNone, Session: session} }

func back(session, number uint32, b ...byte) api.Unit {
	return api.Unit{Kind: api.DevData, Session: session, Number: number, Data: b}
}

func lastBack(session, number uint32) api.Unit {
	return api.Unit{Kind: api.DevLast, Session: session, Number: number}
}

// with: the unit, with these flags.
func with(u api.Unit, flags int) api.Unit {
	u.Flags = flags
	return u
}

// encode: the unit's frame, with this code, unless it has one of its own.
func encode(t *testing.T, u api.Unit, code uint32) []byte {
	t.Helper()
	if u.Code == 0 {
		u.Code = code
	}
	b, e := unit.Encode(u)
	if e != api.OK {
		t.Fatalf("P4.3: Encode(%+v): %d", u, e)
	}
	return b
}

func (b *bench) frame(u api.Unit) []byte {
	b.t.Helper()
	return encode(b.t, u, b.set.Code)
}

// send: the host sends just this.
func (b *bench) send(want api.Unit) {
	b.t.Helper()
	got, e := b.h.Send()
	if wanted := b.frame(want); e != api.OK || !bytes.Equal(got, wanted) {
		b.t.Fatalf("P14.2: Send: % x, %d, not % x", got, e, wanted)
	}
}

// silent: it sends nothing, and says why; that is neither noted nor seen.
func (b *bench) silent(want api.Errno) {
	b.t.Helper()
	was := b.h.See()
	_, total := b.h.Log()
	if got, e := b.h.Send(); len(got) != 0 || e != want {
		b.t.Fatalf("P14.2: Send: % x, %d, not none, %d", got, e, want)
	}
	b.see(was)
	b.log(total)
}

// hear: a unit comes, and is answered so.
func (b *bench) hear(u api.Unit, want api.Errno) {
	b.t.Helper()
	b.hearBytes(b.frame(u), want)
}

func (b *bench) hearBytes(frame []byte, want api.Errno) {
	b.t.Helper()
	if e := b.h.Receive(frame); e != want {
		b.t.Fatalf("P14.3: Receive(% x): %d, not %d", frame, e, want)
	}
}

func sameEnd(a, b api.End) bool {
	if !bytes.Equal(a.Out, b.Out) {
		return false
	}
	a.Out, b.Out = nil, nil
	return a.State == b.State && a.Session == b.Session && a.Number == b.Number && a.Sent == b.Sent &&
		a.Since == b.Since && a.Latched == b.Latched && a.Request == b.Request && a.On == b.On
}

// see: it looks so; twice, since looking changes nothing.
func (b *bench) see(want api.End) {
	b.t.Helper()
	if want.Out == nil {
		want.Out = make([]byte, b.set.In)
	}
	for range 2 {
		if got := b.h.See(); !sameEnd(got, want) {
			b.t.Fatalf("P14.4: See: %+v, not %+v", got, want)
		}
	}
}

// log: as many were noted, and these were the last ones.
func (b *bench) log(total int, want ...api.Record) {
	b.t.Helper()
	for range 2 {
		got, n := b.h.Log()
		if n != total || len(got) < len(want) || len(got) != min(total, api.MaxRecords) {
			b.t.Fatalf("P14.4: Log: %v, %d, not %d with %v last", got, n, total, want)
		}
		if got = got[len(got)-len(want):]; !slices.Equal(got, want) {
			b.t.Fatalf("P14.4: Log: the last ones: %v, not %v", got, want)
		}
	}
}

// record: the At-th.
func record(at int, code api.Errno, session, number uint32) api.Record {
	return api.Record{At: at, Code: code, Session: session, Number: number}
}

// holdErr: an error, or OK.
func (b *bench) holdErr(promise, call string, got, want api.Errno) {
	b.t.Helper()
	if got != want {
		b.t.Fatalf("%s: %s: %d, not %d", promise, call, got, want)
	}
}

func (b *bench) tick(n int, want api.Errno) {
	b.t.Helper()
	b.holdErr("P14.4", "Tick", b.h.Tick(n), want)
}

func (b *bench) ack(want api.Errno) {
	b.t.Helper()
	b.holdErr("P14.4", "Ack", b.h.Ack(), want)
}

func (b *bench) write(value []byte, hold bool, want api.Errno) {
	b.t.Helper()
	b.holdErr("P14.4", "Write", b.h.Write(value, hold), want)
}

func (b *bench) reset() {
	b.t.Helper()
	b.holdErr("P14.1", "Reset", b.h.Reset(), api.OK)
}

// value: as many bytes as the device sends, beginning so.
func value(p api.Param, first byte) []byte {
	v := make([]byte, p.In)
	for i := range v {
		v[i] = first + byte(i)
	}
	return v
}

// own: as many bytes 0 as the host sends: what its application has at first.
func own(p api.Param) []byte { return make([]byte, p.Out) }

// The places where a host can stand, and how it is brought there from its
// beginning: in session 4, waiting for nothing.
const (
	idle    = "Idle"
	gaveUp  = "Idle behind a session"
	offered = "Offered"
	inAgree = "Agreed"
	begun   = "Running with the number 0"
	running = "Running behind number 1"
	doneOut = "Done by its own last unit"
	doneIn  = "Done by the device's"
)

var places = []string{idle, gaveUp, offered, inAgree, begun, running, doneOut, doneIn}

// inSession: those from which a session can be given up.
var inSession = []string{offered, inAgree, begun, running}

// reachable: can it be brought there without sending numbers for ever?
func reachable(p api.Param, place string) bool { return place != doneOut || p.Count <= 1000 }

// at: a host in that place.
func at(t *testing.T, p api.Param, place string) *bench {
	t.Helper()
	b := fresh(t, p)
	b.bring(4, place)
	return b
}

// bring: from Idle on, in this session, which must be above all earlier ones.
func (b *bench) bring(session uint32, place string) {
	b.t.Helper()
	if place == idle {
		return
	}
	b.hear(offer(b.set, session), api.OK)
	switch place {
	case offered:
		return
	case gaveUp:
		for range api.ResyncMax {
			b.send(echo(b.set, session))
		}
		b.send(wish(b.set))
		return
	}
	b.hear(agreed(session), api.OK)
	if place == inAgree {
		return
	}
	b.hear(started(session), api.OK)
	switch place {
	case running:
		b.exchange(session, 1)
	case doneOut:
		for n := uint32(1); n < b.set.Count; n++ {
			b.exchange(session, n)
		}
		b.send(last(session, b.set.Count))
	case doneIn:
		b.hear(lastBack(session, b.set.Count), api.OK)
	}
}

// exchange: a number is sent, and comes back.
func (b *bench) exchange(session, number uint32) {
	b.t.Helper()
	if _, e := b.h.Send(); e != api.OK {
		b.t.Fatalf("P14.2: number %d: %d", number, e)
	}
	if got := b.h.See().Sent; got != number {
		b.t.Fatalf("P14.2: Sent %d, not %d", got, number)
	}
	b.hear(back(session, number, value(b.set, 0xa0)...), api.OK)
}

// looks: how a host that at has brought there looks.
func looks(p api.Param, place string) api.End {
	switch place {
	case idle:
		return api.End{State: api.Idle}
	case gaveUp:
		return api.End{State: api.Idle, Session: 4}
	case offered:
		return api.End{State: api.Offered, Session: 4}
	case inAgree:
		return api.End{State: api.Agreed, Session: 4}
	case begun:
		return api.End{State: api.Running, Session: 4}
	case running:
		return api.End{State: api.Running, Session: 4, Number: 1, Sent: 1, On: true, Out: value(p, 0xa0)}
	case doneOut:
		return api.End{State: api.Done, Session: 4, Number: p.Count - 1, Sent: p.Count, Latched: api.ErrExhausted}
	}
	return api.End{State: api.Done, Session: 4, Number: p.Count, Latched: api.ErrExhausted}
}

// noted: how many records a host that at has brought there has.
func noted(place string) int {
	if place == doneOut || place == doneIn {
		return 1
	}
	return 0
}

// says: what a host that at has brought there sends next; false: nothing.
func says(p api.Param, place string) (api.Unit, bool) {
	switch place {
	case idle, gaveUp:
		return wish(p), true
	case offered:
		return echo(p, 4), true
	case inAgree:
		return start(4), true
	case begun:
		return data(4, 1, api.FlagPassive, own(p)...), true
	case running:
		if p.Count == 2 {
			return last(4, 2), true
		}
		return data(4, 2, 0, own(p)...), true
	}
	return api.Unit{}, false
}
