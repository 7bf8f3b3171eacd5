package host_test

import (
	"bytes"
	"testing"

	"parapet/api"
)

func TestTick(t *testing.T) {
	for _, place := range places {
		b := at(t, plain, place)
		was, n := looks(plain, place), noted(place)
		b.tick(-1, api.ErrRange)
		b.tick(least, api.ErrRange)
		b.see(was)
		b.tick(0, api.OK)
		b.see(was)
		b.tick(4, api.OK)
		b.tick(5, api.OK)
		was.Since = 9
		b.see(was)
		b.log(n)
		b.tick(-1, api.ErrRange)
		b.tick(0, api.OK)
		b.see(was)
		b.tick(1, api.OK)
		was.Since, was.On, was.Out = 10, false, nil
		if was.Latched == api.OK {
			was.Latched = api.ErrWatchdog
			n++
			b.log(n, record(n, api.ErrWatchdog, was.Session, was.Number))
		}
		b.see(was)
		b.log(n)
		// Behind the limit it isn't told again.
		for _, k := range []int{0, 1, 10, top} {
			b.tick(k, api.OK)
			b.see(was)
			b.log(n)
		}
		b.tick(-1, api.ErrRange)
		b.see(was)
		b.log(n)
	}
}

func TestTickFarAboveTheLimit(t *testing.T) {
	for _, p := range sets {
		for _, n := range []int{p.Watch, p.Watch + 1, 1 << 40, top} {
			b := at(t, p, running)
			b.tick(p.Watch-1, api.OK)
			want := looks(p, running)
			want.Since = p.Watch - 1
			b.see(want)
			b = at(t, p, running)
			b.tick(n, api.OK)
			b.see(api.End{State: api.Running, Session: 4, Number: 1, Sent: 1, Since: p.Watch, Latched: api.ErrWatchdog})
			b.log(1, record(1, api.ErrWatchdog, 4, 1))
		}
	}
}

func TestAck(t *testing.T) {
	for _, place := range places {
		b := at(t, plain, place)
		b.ack(api.ErrRequest)
		b.see(looks(plain, place))
		b.log(noted(place))
	}
	b := at(t, plain, running)
	b.tick(10, api.OK)
	b.ack(api.ErrRequest)
	b.hear(back(4, 1, 3), api.ErrStale)
	b.ack(api.ErrRequest)
	// Sending is nothing fresh.
	b.send(data(4, 2, 5, 0, 0))
	b.ack(api.ErrRequest)
	b.hear(back(4, 2, 3), api.OK)
	b.see(api.End{State: api.Running, Session: 4, Number: 2, Sent: 2, Latched: api.ErrWatchdog, Request: true})
	b.ack(api.OK)
	b.see(api.End{State: api.Running, Session: 4, Number: 2, Sent: 2})
	b.ack(api.ErrRequest)
	b.hear(back(4, 2, 3), api.ErrStale)
	b.see(api.End{State: api.Running, Session: 4, Number: 2, Sent: 2})
	b.hear(back(4, 3, 3), api.OK)
	b.see(api.End{State: api.Running, Session: 4, Number: 3, Sent: 2, On: true, Out: []byte{3}})
	b.ack(api.ErrRequest)
	// An Ack is not noted.
	b.log(3, record(1, api.ErrWatchdog, 4, 1), record(2, api.ErrStale, 4, 1), record(3, api.ErrStale, 4, 2))
}

// The way back leads over a whole handshake: each unit of it is fresh, but only
// while it is Running there is a Request.
func TestTheWayBack(t *testing.T) {
	b := fresh(t, plain)
	b.tick(10, api.OK)
	b.see(api.End{State: api.Idle, Since: 10, Latched: api.ErrWatchdog})
	b.log(1, record(1, api.ErrWatchdog, 0, 0))
	b.send(wish(plain))
	b.hear(offer(plain, 4), api.OK)
	b.see(api.End{State: api.Offered, Session: 4, Latched: api.ErrWatchdog})
	b.ack(api.ErrRequest)
	b.hear(agreed(4), api.OK)
	b.see(api.End{State: api.Agreed, Session: 4, Latched: api.ErrWatchdog})
	b.ack(api.ErrRequest)
	b.hear(started(4), api.OK)
	b.see(api.End{State: api.Running, Session: 4, Latched: api.ErrWatchdog, Request: true})
	b.ack(api.OK)
	b.see(api.End{State: api.Running, Session: 4})
	b.log(1)
}

// giveUp: sendings that bring nothing, until it is Idle.
func (b *bench) giveUp() {
	b.t.Helper()
	for range api.ResyncMax + 1 {
		if _, e := b.h.Send(); e != api.OK {
			b.t.Fatalf("P14.2: Send: %d", e)
		}
	}
	if got := b.h.See(); got.State != api.Idle {
		b.t.Fatalf("P14.2: behind %d sendings: %+v", api.ResyncMax+1, got)
	}
}

// A further fault asks for something fresh behind it, and isn't noted.
func TestAFurtherFault(t *testing.T) {
	b := at(t, plain, running)
	b.tick(10, api.OK)
	b.hear(back(4, 2, 3), api.OK)
	b.tick(10, api.OK)
	b.see(api.End{State: api.Running, Session: 4, Number: 2, Sent: 1, Since: 10, Latched: api.ErrWatchdog})
	b.log(1, record(1, api.ErrWatchdog, 4, 1))
	b.ack(api.ErrRequest)
	// ErrResync behind ErrWatchdog: what came ahead of it counts no more.
	b.hear(back(4, 3, 3), api.OK)
	b.giveUp()
	b.see(api.End{State: api.Idle, Session: 4, Latched: api.ErrWatchdog})
	b.log(1)
	b.bring(5, begun)
	b.see(api.End{State: api.Running, Session: 5, Latched: api.ErrWatchdog, Request: true})
	// ErrExhausted behind it, by the device's last unit.
	b.hear(lastBack(5, 100), api.OK)
	b.see(api.End{State: api.Done, Session: 5, Number: 100, Latched: api.ErrWatchdog})
	b.log(1)
	b.tick(10, api.OK)
	b.see(api.End{State: api.Done, Session: 5, Number: 100, Since: 10, Latched: api.ErrWatchdog})
	b.log(1)
}

func TestTheWatchdogBehindErrResync(t *testing.T) {
	b := at(t, plain, running)
	b.giveUp()
	b.see(api.End{State: api.Idle, Session: 4, Latched: api.ErrResync})
	b.log(1, record(1, api.ErrResync, 4, 1))
	b.tick(10, api.OK)
	b.see(api.End{State: api.Idle, Session: 4, Since: 10, Latched: api.ErrResync})
	b.log(1)
	// And once more ErrResync.
	b.bring(5, running)
	b.giveUp()
	b.see(api.End{State: api.Idle, Session: 5, Latched: api.ErrResync})
	b.log(1)
	// Acknowledged, the next one is noted.
	b.bring(6, begun)
	b.ack(api.OK)
	b.giveUp()
	b.see(api.End{State: api.Idle, Session: 6, Latched: api.ErrResync})
	b.log(2, record(2, api.ErrResync, 6, 0))
}

// The host's own last unit behind each other fault: that one stays.
func TestItsOwnLastUnitBehindAFault(t *testing.T) {
	b := at(t, small, running)
	b.tick(10, api.OK)
	b.send(data(4, 2, 5, 0, 0))
	b.hear(back(4, 2, 3), api.OK)
	b.send(last(4, 3))
	b.see(api.End{State: api.Done, Session: 4, Number: 2, Sent: 3, Latched: api.ErrWatchdog})
	b.log(1, record(1, api.ErrWatchdog, 4, 1))
	b.silent(api.ErrDone)

	p := small
	p.Count = api.ResyncMax + 2
	b = at(t, p, begun)
	b.giveUp()
	b.bring(5, begun)
	for n := uint32(1); n < p.Count; n++ {
		b.exchange(5, n)
	}
	b.send(last(5, p.Count))
	b.see(api.End{State: api.Done, Session: 5, Number: p.Count - 1, Sent: p.Count, Latched: api.ErrResync})
	b.log(1, record(1, api.ErrResync, 4, 0))
}

// A latch that is acknowledged makes room for the next, which is noted.
func TestLatchAfterLatch(t *testing.T) {
	b := at(t, plain, running)
	for i := range 5 {
		n := uint32(i)*2 + 1
		b.tick(10, api.OK)
		b.log(i+1, record(i+1, api.ErrWatchdog, 4, n))
		b.hear(back(4, n+1, 3), api.OK)
		b.ack(api.OK)
		b.hear(back(4, n+2, 4), api.OK)
		b.see(api.End{State: api.Running, Session: 4, Number: n + 2, Sent: 1, On: true, Out: []byte{4}})
	}
}

// What comes while a fault is latched is accepted, but doesn't come out, then or later.
func TestValuesWhileLatched(t *testing.T) {
	b := at(t, plain, running)
	b.tick(10, api.OK)
	for n := uint32(2); n < 6; n++ {
		b.hear(back(4, n, 0xee), api.OK)
		b.see(api.End{State: api.Running, Session: 4, Number: n, Sent: 1, Latched: api.ErrWatchdog, Request: true})
	}
	b.ack(api.OK)
	b.see(api.End{State: api.Running, Session: 4, Number: 5, Sent: 1})
	// A hold that came meanwhile holds.
	b.tick(10, api.OK)
	b.hear(with(back(4, 6, 1), api.FlagHold), api.OK)
	b.ack(api.OK)
	b.see(api.End{State: api.Running, Session: 4, Number: 6, Sent: 1})
	b.hear(back(4, 7, 8), api.OK)
	b.see(api.End{State: api.Running, Session: 4, Number: 7, Sent: 1, On: true, Out: []byte{8}})
}

// A latch stays over sessions; only an acknowledgement or a reset ends it.
func TestALatchStays(t *testing.T) {
	b := fresh(t, plain)
	b.tick(10, api.OK)
	for s := uint32(1); s <= 5; s++ {
		b.bring(s, begun)
		b.see(api.End{State: api.Running, Session: s, Latched: api.ErrWatchdog, Request: true})
		b.giveUp()
		b.see(api.End{State: api.Idle, Session: s, Latched: api.ErrWatchdog})
	}
	b.reset()
	b.see(api.End{State: api.Idle})
	b.bring(6, running)
	b.see(api.End{State: api.Running, Session: 6, Number: 1, Sent: 1, On: true, Out: []byte{0xa0}})
}

// A session that is given up while it is Offered or Agreed is no fault.
func TestNoLatchAheadOfRunning(t *testing.T) {
	b := fresh(t, plain)
	for s := uint32(1); s <= 10; s += 2 {
		b.bring(s, offered)
		b.giveUp()
		b.bring(s+1, inAgree)
		b.giveUp()
		b.see(api.End{State: api.Idle, Session: s + 1})
		b.log(0)
	}
}

func TestWrite(t *testing.T) {
	for _, p := range sets {
		b := fresh(t, p)
		v := bytes.Repeat([]byte{0x21}, p.Out)
		b.write(v, true, api.OK)
		for n := range api.MaxData + 3 {
			if n == p.Out {
				continue
			}
			// R4: what is refused changes neither the value nor the hold.
			b.write(bytes.Repeat([]byte{0xee}, n), false, api.ErrLength)
		}
		b.write(nil, false, api.ErrLength)
		b.write(make([]byte, 5000), false, api.ErrLength)
		b.bring(1, begun)
		b.send(data(1, 1, api.FlagHold|api.FlagPassive, v...))
		if p.Count <= 4 {
			continue
		}
		// The last one holds, and stays until another is written.
		b.hear(back(1, 1, value(p, 1)...), api.OK)
		b.write(bytes.Repeat([]byte{0x22}, p.Out), true, api.OK)
		b.write(bytes.Repeat([]byte{0x23}, p.Out), false, api.OK)
		for n := uint32(2); n <= 4; n++ {
			b.send(data(1, n, 0, bytes.Repeat([]byte{0x23}, p.Out)...))
		}
		b.log(0)
	}
}

// What the application wrote outlives a session, and shows in none but data units.
func TestWriteInEachPlace(t *testing.T) {
	for _, place := range places {
		b := at(t, plain, place)
		b.write([]byte{0x4d, 0x4e}, true, api.OK)
		b.see(looks(plain, place))
		b.log(noted(place))
		switch b.h.See().State {
		case api.Done:
			continue
		case api.Idle:
		default:
			b.giveUp()
		}
		flags := api.FlagHold | api.FlagPassive
		if b.h.See().Latched != api.OK {
			flags = 15
		}
		b.bring(5, begun)
		b.send(data(5, 1, flags, 0x4d, 0x4e))
	}
}
