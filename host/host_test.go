package host_test

import (
	"bytes"
	"testing"

	"parapet/api"
	"parapet/host"
)

func TestExamples(t *testing.T) {
	b := fresh(t, small)
	b.see(api.End{State: api.Idle})
	b.send(wish(small))
	b.hear(offer(small, 4), api.OK)
	b.see(api.End{State: api.Offered, Session: 4})
	b.send(echo(small, 4))
	b.hear(started(4), api.ErrStale)
	b.see(api.End{State: api.Offered, Session: 4})
	b.hear(agreed(4), api.OK)
	b.see(api.End{State: api.Agreed, Session: 4})
	b.send(start(4))
	b.hear(started(4), api.OK)
	b.see(api.End{State: api.Running, Session: 4})
	b.send(data(4, 1, 1, 0, 0))
	b.see(api.End{State: api.Running, Session: 4, Sent: 1})
	b.hear(back(4, 1, 0x2a), api.OK)
	b.see(api.End{State: api.Running, Session: 4, Number: 1, Sent: 1, On: true, Out: []byte{0x2a}})
	b.send(data(4, 2, 0, 0, 0))
	b.send(last(4, 3))
	b.see(api.End{State: api.Done, Session: 4, Number: 1, Sent: 3, Latched: api.ErrExhausted, Out: []byte{0}})
	b.silent(api.ErrDone)
	b.log(2, record(1, api.ErrStale, 4, 0), record(2, api.ErrExhausted, 4, 1))
	b.reset()
	for range 5 {
		b.send(wish(small))
	}
	b.hear(offer(small, 4), api.OK)
	for range 4 {
		b.send(echo(small, 4))
	}
	b.send(wish(small))
	b.see(api.End{State: api.Idle, Session: 4})
	b.hear(offer(small, 4), api.ErrStale)
	b.hear(offer(small, 5), api.OK)
	b.see(api.End{State: api.Offered, Session: 5})
	b.log(3, record(3, api.ErrStale, 4, 0))
}

// unlawful: one set for each fault.
var unlawful = []api.Param{
	{},
	{Code: 0, Out: 2, In: 1, Watch: 10, Count: 3},
	{Code: 7, Out: 0, In: 1, Watch: 10, Count: 3},
	{Code: 7, Out: -1, In: 1, Watch: 10, Count: 3},
	{Code: 7, Out: api.MaxData + 1, In: 1, Watch: 10, Count: 3},
	{Code: 7, Out: top, In: 1, Watch: 10, Count: 3},
	{Code: 7, Out: least, In: 1, Watch: 10, Count: 3},
	{Code: 7, Out: 2, In: 0, Watch: 10, Count: 3},
	{Code: 7, Out: 2, In: -1, Watch: 10, Count: 3},
	{Code: 7, Out: 2, In: api.MaxData + 1, Watch: 10, Count: 3},
	{Code: 7, Out: 2, In: top, Watch: 10, Count: 3},
	{Code: 7, Out: 2, In: least, Watch: 10, Count: 3},
	{Code: 7, Out: 2, In: 1, Watch: 0, Count: 3},
	{Code: 7, Out: 2, In: 1, Watch: -1, Count: 3},
	{Code: 7, Out: 2, In: 1, Watch: api.MaxTicks + 1, Count: 3},
	{Code: 7, Out: 2, In: 1, Watch: top, Count: 3},
	{Code: 7, Out: 2, In: 1, Watch: 10, Count: 1},
	{Code: 7, Out: 2, In: 1, Watch: 10, Count: 0},
}

func TestNewWithNoLawfulSet(t *testing.T) {
	for _, p := range unlawful {
		// R3: no host beside the error.
		if h, e := host.New(p); h != nil || e != api.ErrParam {
			t.Errorf("P14.1: New(%+v): a host: %v, %d, not %d", p, h != nil, e, api.ErrParam)
		}
	}
}

func TestNew(t *testing.T) {
	for _, p := range sets {
		b := fresh(t, p)
		b.see(api.End{State: api.Idle})
		b.log(0)
		if got := b.h.Code(); got != p.Code {
			t.Errorf("P14.4: Code: %d, not %d", got, p.Code)
		}
		// The application's value is as many bytes 0, and it wants no hold.
		b.bring(1, begun)
		b.send(data(1, 1, api.FlagPassive, own(p)...))
	}
}

func TestEachPlaceLooks(t *testing.T) {
	for _, p := range sets {
		for _, place := range places {
			if !reachable(p, place) {
				continue
			}
			b := at(t, p, place)
			b.see(looks(p, place))
			b.log(noted(place))
			if got := b.h.Code(); got != p.Code {
				t.Errorf("P14.4: Code while it is %s: %d, not %d", place, got, p.Code)
			}
		}
	}
}

func TestResetInEachPlace(t *testing.T) {
	for _, p := range sets {
		for _, place := range places {
			if !reachable(p, place) {
				continue
			}
			b := at(t, p, place)
			b.h.Write(bytes.Repeat([]byte{0x77}, p.Out), true)
			// Faults are latched, and sendings missed.
			b.h.Tick(p.Watch)
			b.hear(back(9, 9, 1), api.ErrStale)
			b.h.Send()
			b.h.Send()
			all, total := b.h.Log()
			b.reset()
			b.see(api.End{State: api.Idle})
			// The records stay.
			b.log(total, all...)
			b.tick(p.Watch-1, api.OK)
			b.see(api.End{State: api.Idle, Since: p.Watch - 1})
			b.send(wish(p))
			// Any session is above none, also one that was accepted earlier, or one below it.
			b.hear(offer(p, 1), api.OK)
			b.see(api.End{State: api.Offered, Session: 1})
			b.log(total, all...)
			// Nothing is missed, nor does it wait.
			for range api.ResyncMax {
				b.send(echo(p, 1))
			}
			b.hear(agreed(1), api.OK)
			b.hear(started(1), api.OK)
			b.send(data(1, 1, api.FlagPassive, own(p)...))
		}
	}
}

func TestResetAgainAndAgain(t *testing.T) {
	b := fresh(t, plain)
	for s := uint32(9); s > 0; s-- {
		b.reset()
		b.reset()
		b.see(api.End{State: api.Idle})
		b.log(0)
		b.bring(s, running)
		b.see(api.End{State: api.Running, Session: s, Number: 1, Sent: 1, On: true, Out: value(plain, 0xa0)})
	}
	// A latch ends with a reset, and its record stays.
	b.tick(10, api.OK)
	b.reset()
	b.see(api.End{State: api.Idle})
	b.log(1, record(1, api.ErrWatchdog, 1, 1))
	b.bring(1, begun)
	b.ack(api.ErrRequest)
	b.hear(back(1, 1, 5), api.OK)
	b.see(api.End{State: api.Running, Session: 1, Number: 1, On: true, Out: []byte{5}})
}

func TestNil(t *testing.T) {
	var h *host.Host
	b := &bench{t: t, set: small}
	b.holdErr("P14.1", "Reset of nil", h.Reset(), api.ErrNil)
	for range api.ResyncMax + 2 {
		if frame, e := h.Send(); len(frame) != 0 || e != api.ErrNil {
			t.Errorf("P14.2: Send of nil: % x, %d, not none, %d", frame, e, api.ErrNil)
		}
	}
	// R2: ErrNil ahead of all that is wrong besides.
	for _, frame := range [][]byte{nil, {}, {1}, make([]byte, 19), make([]byte, 99), b.frame(offer(small, 1)), b.frame(back(1, 1, 1)), b.frame(wish(small))} {
		b.holdErr("P14.3", "Receive of nil", h.Receive(frame), api.ErrNil)
	}
	for _, n := range []int{0, 1, -1, top, least} {
		b.holdErr("P14.4", "Tick of nil", h.Tick(n), api.ErrNil)
	}
	for n := range api.MaxData + 2 {
		b.holdErr("P14.4", "Write of nil", h.Write(make([]byte, n), n%2 == 0), api.ErrNil)
	}
	b.holdErr("P14.4", "Write of nil", h.Write(nil, false), api.ErrNil)
	b.holdErr("P14.4", "Ack of nil", h.Ack(), api.ErrNil)
	if got := h.Code(); got != 0 {
		t.Errorf("R7: Code of nil: %d", got)
	}
	if got := h.See(); !sameEnd(got, api.End{}) {
		t.Errorf("R7: See of nil: %+v", got)
	}
	if got, n := h.Log(); len(got) != 0 || n != 0 {
		t.Errorf("R7: Log of nil: %v, %d", got, n)
	}
}

// One that New hasn't made: nothing is promised but that no call panics (P1).
func TestNotMade(t *testing.T) {
	b := &bench{t: t, set: small}
	for range 2 {
		h := new(host.Host)
		for range api.ResyncMax + 2 {
			h.Send()
		}
		for _, u := range []api.Unit{offer(small, 1), agreed(1), started(1), back(1, 1, 1), lastBack(1, 3), none(0), wish(small)} {
			h.Receive(b.frame(u))
		}
		h.Receive(nil)
		h.Write(nil, true)
		h.Write([]byte{1}, true)
		h.Tick(5)
		h.Tick(-1)
		h.Ack()
		h.See()
		h.Log()
		h.Code()
		h.Reset()
		h.Send()
		h.Receive(b.frame(offer(small, 1)))
		h.See()
	}
}
