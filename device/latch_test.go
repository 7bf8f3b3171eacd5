package device_test

import (
	"bytes"
	"testing"

	"parapet/api"
)

// The flags of an answer, each up and down: what must be done ahead of it,
// with a device that is Running behind number 1.
func TestFlags(t *testing.T) {
	held := with(data(1, 2, 5, 6), api.FlagHold)
	free := data(1, 2, 5, 6)
	for _, x := range []struct {
		name  string
		do    func(b *bench)
		u     api.Unit
		flags int
	}{
		{"on", func(*bench) {}, free, 0},
		{"the host holds", func(*bench) {}, held, 1},
		{"the application holds", func(b *bench) { b.write([]byte{0}, true, api.OK) }, free, 8},
		{"both hold", func(b *bench) { b.write([]byte{0}, true, api.OK) }, held, 9},
		{"the application holds no more", func(b *bench) { b.write([]byte{0}, true, api.OK); b.write([]byte{0}, false, api.OK) }, free, 0},
		// By the unit itself there is a Request.
		{"latched", func(b *bench) { b.tick(10, api.OK) }, free, 7},
		{"latched and held", func(b *bench) { b.tick(10, api.OK) }, held, 7},
		{"latched, the application holds", func(b *bench) { b.tick(10, api.OK); b.write([]byte{0}, true, api.OK) }, free, 15},
		{"just not latched", func(b *bench) { b.tick(9, api.OK) }, free, 0},
	} {
		b := at(t, plain, running)
		x.do(b)
		got, e := b.d.Receive(b.frame(x.u))
		want := b.frame(back(1, 2, x.flags, 0))
		if e != api.OK || !bytes.Equal(got, want) {
			t.Errorf("P13.3: flags: %s: % x, %d, not % x", x.name, got, e, want)
		}
		// The flags are of the moment: the next ones are told anew.
		b.write([]byte{0}, false, api.OK)
		if x.flags&api.FlagLatched != 0 {
			b.ack(api.OK)
		}
		b.hear(data(1, 3, 7, 8), api.OK, back(1, 3, 0, 0))
	}
}

// Only data units have flags, a number and the application's value.
func TestAnswersWithoutFlags(t *testing.T) {
	b := fresh(t, plain)
	b.write([]byte{0x99}, true, api.OK)
	b.tick(10, api.OK)
	b.hear(wish(plain), api.OK, offer(plain, 1))
	b.hear(wish(plain), api.ErrStale, offer(plain, 1))
	b.hear(echo(plain, 1), api.OK, agreed(1))
	b.hear(start(1), api.OK, started(1))
	b.hear(data(1, 1, 1, 2), api.OK, back(1, 1, 15, 0x99))
	b.hear(data(1, 1, 1, 2), api.ErrStale, none(1))
	b.hear(last(1, 100), api.OK, lastBack(1, 100))
	b.hear(start(1), api.ErrStale, none(1))
}

func TestTick(t *testing.T) {
	for _, place := range places {
		if place == down {
			continue
		}
		b := at(t, plain, place)
		was, n := looks(plain, place), noted(place)
		b.tick(-1, api.ErrRange)
		b.tick(least, api.ErrRange)
		b.see(was)
		b.tick(0, api.OK)
		b.see(was)
		b.tick(4, api.OK)
		b.tick(5, api.OK)
		was.Since = 9
		b.see(was)
		b.log(n)
		b.tick(-1, api.ErrRange)
		b.tick(0, api.OK)
		b.see(was)
		b.tick(1, api.OK)
		was.Since, was.On, was.Out = 10, false, nil
		if was.Latched == api.OK {
			was.Latched = api.ErrWatchdog
			n++
			b.log(n, record(n, api.ErrWatchdog, was.Session, was.Number))
		}
		b.see(was)
		b.log(n)
		// Behind the limit it isn't told again.
		for _, k := range []int{0, 1, 10, top} {
			b.tick(k, api.OK)
			b.see(was)
			b.log(n)
		}
		b.tick(-1, api.ErrRange)
		b.see(was)
	}
}

func TestTickFarAboveTheLimit(t *testing.T) {
	for _, p := range sets {
		for _, n := range []int{p.Watch, p.Watch + 1, 1 << 40, top} {
			b := at(t, p, running)
			b.tick(p.Watch-1, api.OK)
			if got := b.d.See(); got.Latched != api.OK || !got.On || got.Since != p.Watch-1 {
				t.Fatalf("P13.4: just below the limit %d: %+v", p.Watch, got)
			}
			b = at(t, p, running)
			b.tick(n, api.OK)
			b.see(api.End{State: api.Running, Session: 1, Number: 1, Sent: 1, Since: p.Watch, Latched: api.ErrWatchdog})
			b.log(1, record(1, api.ErrWatchdog, 1, 1))
		}
	}
}

func TestAck(t *testing.T) {
	for _, place := range places {
		if place == down {
			continue
		}
		b := at(t, plain, place)
		b.ack(api.ErrRequest)
		b.see(looks(plain, place))
		b.log(noted(place))
	}
	b := at(t, plain, running)
	b.tick(10, api.OK)
	b.ack(api.ErrRequest)
	b.hear(data(1, 1, 3, 4), api.ErrStale, none(1))
	b.ack(api.ErrRequest)
	b.hear(data(1, 2, 3, 4), api.OK, back(1, 2, 7, 0))
	b.see(api.End{State: api.Running, Session: 1, Number: 2, Sent: 2, Latched: api.ErrWatchdog, Request: true})
	b.ack(api.OK)
	b.see(api.End{State: api.Running, Session: 1, Number: 2, Sent: 2})
	b.ack(api.ErrRequest)
	b.hear(data(1, 2, 3, 4), api.ErrStale, none(1))
	b.see(api.End{State: api.Running, Session: 1, Number: 2, Sent: 2})
	b.hear(data(1, 3, 3, 4), api.OK, back(1, 3, 0, 0))
	b.see(api.End{State: api.Running, Session: 1, Number: 3, Sent: 3, On: true, Out: []byte{3, 4}})
	b.ack(api.ErrRequest)
	// An Ack is neither noted nor counted.
	b.log(3, record(1, api.ErrWatchdog, 1, 1), record(2, api.ErrStale, 1, 1), record(3, api.ErrStale, 1, 2))
}

// A further fault asks for something fresh behind it, and isn't noted.
func TestAFurtherFault(t *testing.T) {
	b := at(t, plain, running)
	b.tick(10, api.OK)
	b.hear(data(1, 2, 3, 4), api.OK, back(1, 2, 7, 0))
	b.tick(10, api.OK)
	b.see(api.End{State: api.Running, Session: 1, Number: 2, Sent: 2, Since: 10, Latched: api.ErrWatchdog})
	b.log(1, record(1, api.ErrWatchdog, 1, 1))
	b.ack(api.ErrRequest)
	b.hear(data(1, 3, 3, 4), api.OK, back(1, 3, 7, 0))
	// ErrResync behind ErrWatchdog.
	b.giveUp(1, start(1))
	b.see(api.End{State: api.Idle, Latched: api.ErrWatchdog})
	b.log(5, record(4, api.ErrStale, 1, 3), record(5, api.ErrStale, 0, 0))
	b.bring(2, begun)
	b.see(api.End{State: api.Running, Session: 2, Latched: api.ErrWatchdog, Request: true})
	// ErrExhausted behind both.
	b.hear(last(2, 100), api.OK, lastBack(2, 100))
	b.see(api.End{State: api.Done, Session: 2, Number: 100, Sent: 100, Latched: api.ErrWatchdog})
	b.log(5)
	b.bring(3, inAgree)
	b.ack(api.ErrRequest)
	b.hear(start(3), api.OK, started(3))
	b.ack(api.OK)
	// And the other way round: the watchdog behind ErrResync.
	b.hear(data(3, 1, 3, 4), api.OK, back(3, 1, 0, 0))
	b.giveUp(3, start(3))
	b.see(api.End{State: api.Idle, Latched: api.ErrResync})
	b.log(10, record(9, api.ErrResync, 3, 1), record(10, api.ErrStale, 0, 0))
	b.tick(10, api.OK)
	b.see(api.End{State: api.Idle, Since: 10, Latched: api.ErrResync})
	b.log(10)
	// And behind ErrExhausted: both.
	b.bring(4, begun)
	b.ack(api.OK)
	b.hear(last(4, 100), api.OK, lastBack(4, 100))
	b.log(11, record(11, api.ErrExhausted, 4, 100))
	b.tick(10, api.OK)
	b.bring(5, begun)
	b.giveUp(5, echo(plain, 5))
	b.see(api.End{State: api.Idle, Latched: api.ErrExhausted})
	b.log(15, record(15, api.ErrStale, 0, 0))
}

// A latch that is acknowledged makes room for the next, which is noted.
func TestLatchAfterLatch(t *testing.T) {
	b := at(t, plain, running)
	for i := range 5 {
		n := uint32(i)*2 + 1
		b.tick(10, api.OK)
		b.log(i+1, record(i+1, api.ErrWatchdog, 1, n))
		b.hear(data(1, n+1, 3, 4), api.OK, back(1, n+1, 7, 0))
		b.ack(api.OK)
		b.hear(data(1, n+2, 3, 4), api.OK, back(1, n+2, 0, 0))
		b.see(api.End{State: api.Running, Session: 1, Number: n + 2, Sent: n + 2, On: true, Out: []byte{3, 4}})
	}
}

// What comes while a fault is latched is accepted, but doesn't come out, then or later.
func TestValuesWhileLatched(t *testing.T) {
	b := at(t, plain, running)
	b.tick(10, api.OK)
	for n := uint32(2); n < 6; n++ {
		b.hear(data(1, n, 0xee, byte(n)), api.OK, back(1, n, 7, 0))
		b.see(api.End{State: api.Running, Session: 1, Number: n, Sent: n, Latched: api.ErrWatchdog, Request: true})
	}
	b.ack(api.OK)
	b.see(api.End{State: api.Running, Session: 1, Number: 5, Sent: 5})
	// A hold that came meanwhile holds.
	b.tick(10, api.OK)
	b.hear(with(data(1, 6, 1, 2), api.FlagHold), api.OK, back(1, 6, 7, 0))
	b.ack(api.OK)
	b.see(api.End{State: api.Running, Session: 1, Number: 6, Sent: 6})
	b.hear(data(1, 7, 8, 9), api.OK, back(1, 7, 0, 0))
}

// A latch stays over sessions; only an acknowledgement or a reset ends it.
func TestALatchStays(t *testing.T) {
	b := fresh(t, plain)
	b.tick(10, api.OK)
	for s := uint32(1); s <= 5; s++ {
		b.bring(s, begun)
		b.see(api.End{State: api.Running, Session: s, Latched: api.ErrWatchdog, Request: true})
		b.giveUp(s, echo(plain, s))
		b.see(api.End{State: api.Idle, Latched: api.ErrWatchdog})
	}
	b.reset(0, api.OK)
	b.see(api.End{State: api.Idle})
	b.bring(6, running)
	b.see(api.End{State: api.Running, Session: 6, Number: 1, Sent: 1, On: true, Out: b.value(0xa0)})
}

func TestWrite(t *testing.T) {
	for _, p := range sets {
		b := fresh(t, p)
		value := bytes.Repeat([]byte{0x21}, p.In)
		b.write(value, true, api.OK)
		for n := range api.MaxData + 3 {
			if n == p.In {
				continue
			}
			// R4: what is refused changes neither the value nor the hold.
			b.write(bytes.Repeat([]byte{0xee}, n), false, api.ErrLength)
		}
		b.write(nil, false, api.ErrLength)
		b.write(make([]byte, 5000), false, api.ErrLength)
		b.bring(1, begun)
		b.hear(data(1, 1, b.value(1)...), api.OK, back(1, 1, api.FlagHold, value...))
		if p.Count <= 3 {
			continue
		}
		// The last one holds, and stays until another is written.
		b.write(bytes.Repeat([]byte{0x22}, p.In), true, api.OK)
		b.write(bytes.Repeat([]byte{0x23}, p.In), false, api.OK)
		for n := uint32(2); n <= 4; n++ {
			b.hear(data(1, n, b.value(1)...), api.OK, back(1, n, 0, bytes.Repeat([]byte{0x23}, p.In)...))
		}
		b.log(0)
	}
}

// What the application wrote outlives a session, and shows in none but data units.
func TestWriteInEachPlace(t *testing.T) {
	for _, place := range []string{idle, offered, inAgree, begun, running, done} {
		b := at(t, plain, place)
		b.write([]byte{0x4d}, true, api.OK)
		b.see(looks(plain, place))
		b.log(noted(place))
		s := looks(plain, place).Session
		if place != idle && place != done {
			b.giveUp(s, data(9, 9, 1, 2))
		}
		b.bring(s+1, begun)
		flags := api.FlagHold
		if b.d.See().Latched != api.OK {
			flags |= 7
		}
		b.hear(data(s+1, 1, 1, 2), api.OK, back(s+1, 1, flags, 0x4d))
	}
}
