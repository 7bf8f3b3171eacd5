package device_test

import (
	"testing"

	"parapet/api"
)

// inSession: the places from which a session can be given up.
var inSession = []string{offered, inAgree, begun, running}

// unsigned: the unit with another signature.
func unsigned(u api.Unit) api.Unit {
	u.Data = wrong(plain)
	return u
}

// oddIn: units that are odd in a place, of every kind that can be, with their
// errors; not the host's wishes.
func oddIn(place string) []asked {
	list := []asked{
		{u: unsigned(wish(plain)), e: api.ErrSignature},
		{u: echo(plain, 2), e: api.ErrStale},
		{u: unsigned(echo(plain, 2)), e: api.ErrStale},
		{u: start(2), e: api.ErrStale},
		{u: data(2, 2, 1, 2), e: api.ErrStale},
		{u: data(1, 2, 1), e: api.ErrStale},
		{u: data(1, 100, 1, 2), e: api.ErrStale},
		{u: last(1, 99), e: api.ErrStale},
		{u: last(2, 100), e: api.ErrStale},
	}
	switch place {
	case offered:
		list = append(list, asked{u: start(1), e: api.ErrStale}, asked{u: data(1, 1, 1, 2), e: api.ErrStale}, asked{u: last(1, 100), e: api.ErrStale}, asked{u: unsigned(echo(plain, 1)), e: api.ErrSignature})
	case inAgree:
		list = append(list, asked{u: data(1, 1, 1, 2), e: api.ErrStale}, asked{u: last(1, 100), e: api.ErrStale}, asked{u: unsigned(echo(plain, 1)), e: api.ErrSignature})
	case running:
		list = append(list, asked{u: start(1), e: api.ErrStale}, asked{u: data(1, 1, 1, 2), e: api.ErrStale})
		fallthrough
	case begun:
		list = append(list, asked{u: echo(plain, 1), e: api.ErrStale}, asked{u: unsigned(echo(plain, 1)), e: api.ErrStale})
	}
	return list
}

// holdGivenUp: it is Idle, by a unit that was answered e, which came as the
// fourth; behind Running a fault is latched, and noted ahead of that error.
func holdGivenUp(b *bench, place string, e api.Errno, n int) {
	b.t.Helper()
	want := api.End{State: api.Idle, Since: 2}
	was := looks(b.set, place)
	if was.State == api.Running {
		want.Latched = api.ErrResync
		b.see(want)
		b.log(n+2, record(n+1, api.ErrResync, 1, was.Number), record(n+2, e, 0, 0))
		return
	}
	b.see(want)
	b.log(n+1, record(n+1, e, 0, 0))
}

func TestGivingUp(t *testing.T) {
	for _, place := range inSession {
		for i, a := range oddIn(place) {
			// The first three of another kind each.
			all := oddIn(place)
			b := at(t, plain, place)
			b.tick(2, api.OK)
			want := looks(plain, place)
			want.Since = 2
			for k := range api.ResyncMax - 1 {
				x := all[(i+k)%len(all)]
				b.hear(x.u, x.e, none(1))
				b.see(want)
				b.log(k+1, record(k+1, x.e, 1, want.Number))
			}
			b.hear(a.u, a.e, none(0))
			holdGivenUp(b, place, a.e, api.ResyncMax-1)
			// Idle it counts no more, and a wish is believed at once.
			for range api.ResyncMax + 1 {
				b.hear(start(1), api.ErrStale, none(0))
			}
			b.hear(wish(plain), api.OK, offer(plain, 2))
			for range api.ResyncMax - 1 {
				b.hear(start(1), api.ErrStale, none(2))
			}
			b.hear(start(1), api.ErrStale, none(0))
		}
	}
}

func TestWishesAgainAndAgain(t *testing.T) {
	for _, place := range inSession {
		b := at(t, plain, place)
		b.tick(2, api.OK)
		was := looks(plain, place)
		was.Since = 2
		answer := none(1)
		if place == offered {
			answer = offer(plain, 1)
		}
		for k := range api.ResyncMax - 1 {
			b.hear(wish(plain), api.ErrStale, answer)
			b.see(was)
			b.log(k+1, record(k+1, api.ErrStale, 1, was.Number))
		}
		writes := b.m.Writes()
		b.hear(wish(plain), api.OK, offer(plain, 2))
		want := api.End{State: api.Offered, Session: 2, Since: 2}
		n := 3
		if was.State == api.Running {
			want.Latched = api.ErrResync
			n++
			b.log(n, record(n, api.ErrResync, 1, was.Number))
		}
		b.see(want)
		b.log(n)
		if b.m.Writes() != writes+6 {
			t.Errorf("P13.3: a new session makes %d writes", b.m.Writes()-writes)
		}
		// The odd units are 0 again: it takes four more.
		for range api.ResyncMax - 1 {
			b.hear(wish(plain), api.ErrStale, offer(plain, 2))
		}
		b.hear(wish(plain), api.OK, offer(plain, 3))
		// What is latched stays over that, till it runs and is acknowledged.
		b.ack(api.ErrRequest)
		b.hear(echo(plain, 3), api.OK, agreed(3))
		b.ack(api.ErrRequest)
		b.hear(start(3), api.OK, started(3))
		if was.State == api.Running {
			b.see(api.End{State: api.Running, Session: 3, Latched: api.ErrResync, Request: true})
			b.ack(api.OK)
		}
		b.see(api.End{State: api.Running, Session: 3})
		b.hear(data(3, 1, 5, 6), api.OK, back(3, 1, 0, 0))
	}
}

// One of the four is a wish, the others are not: where it comes as the fourth
// it begins a session, else it is one of the odd ones.
func TestOneWishAmongOddUnits(t *testing.T) {
	for _, place := range inSession {
		for _, a := range oddIn(place) {
			for which := range api.ResyncMax {
				b := at(t, plain, place)
				b.tick(2, api.OK)
				was := looks(plain, place)
				for k := range api.ResyncMax {
					switch {
					case k == which && k == api.ResyncMax-1:
						b.hear(wish(plain), api.OK, offer(plain, 2))
						if got := b.d.See(); got.State != api.Offered || got.Session != 2 || (got.Latched == api.ErrResync) != (was.State == api.Running) {
							t.Fatalf("P13.3: behind the wish that was the fourth: %+v", got)
						}
					case k == which && place == offered:
						b.hear(wish(plain), api.ErrStale, offer(plain, 1))
					case k == which:
						b.hear(wish(plain), api.ErrStale, none(1))
					case k == api.ResyncMax-1:
						b.hear(a.u, a.e, none(0))
						holdGivenUp(b, place, a.e, api.ResyncMax-1)
					default:
						b.hear(a.u, a.e, none(1))
					}
				}
			}
		}
	}
}

// A wish with another signature is odd, and begins no session as the fourth.
func TestUnsignedWishes(t *testing.T) {
	for _, place := range inSession {
		b := at(t, plain, place)
		b.tick(2, api.OK)
		writes := b.m.Writes()
		for range api.ResyncMax - 1 {
			b.hear(unsigned(wish(plain)), api.ErrSignature, none(1))
		}
		b.hear(unsigned(wish(plain)), api.ErrSignature, none(0))
		holdGivenUp(b, place, api.ErrSignature, api.ResyncMax-1)
		for range api.ResyncMax + 1 {
			b.hear(unsigned(wish(plain)), api.ErrSignature, none(0))
		}
		if b.m.Writes() != writes {
			t.Errorf("P13.3: a wish with another signature writes the memory")
		}
	}
}

// Each byte of the signature counts.
func TestSignatures(t *testing.T) {
	other := plain
	other.Watch++
	list := [][]byte{{0, 0, 0, 0}, {0xff, 0xff, 0xff, 0xff}, signature(small), signature(other)}
	for i := range 32 {
		s := signature(plain)
		s[i/8] ^= 0x80 >> (i % 8)
		list = append(list, s)
	}
	s := signature(plain)
	list = append(list, []byte{s[3], s[2], s[1], s[0]})
	for _, s := range list {
		b := fresh(t, plain)
		b.hear(api.Unit{Kind: api.HostParam, Data: s}, api.ErrSignature, none(0))
		b.bring(1, offered)
		b.hear(api.Unit{Kind: api.HostEcho, Session: 1, Data: s}, api.ErrSignature, none(1))
		b.see(api.End{State: api.Offered, Session: 1})
		b.hear(echo(plain, 1), api.OK, agreed(1))
		b.hear(api.Unit{Kind: api.HostEcho, Session: 1, Data: s}, api.ErrSignature, none(1))
		b.see(api.End{State: api.Agreed, Session: 1})
		b.log(3, record(1, api.ErrSignature, 0, 0), record(2, api.ErrSignature, 1, 0), record(3, api.ErrSignature, 1, 0))
	}
}

// What brings it on, from the place, and the place behind it.
var onward = []struct {
	from string
	u    api.Unit
	to   api.End
}{
	{offered, echo(plain, 1), api.End{State: api.Agreed, Session: 1}},
	{inAgree, start(1), api.End{State: api.Running, Session: 1}},
	{begun, data(1, 1, 3, 4), api.End{State: api.Running, Session: 1, Number: 1, Sent: 1, On: true, Out: []byte{3, 4}}},
	{begun, data(1, 50, 3, 4), api.End{State: api.Running, Session: 1, Number: 50, Sent: 1, On: true, Out: []byte{3, 4}}},
	{running, data(1, 2, 3, 4), api.End{State: api.Running, Session: 1, Number: 2, Sent: 2, On: true, Out: []byte{3, 4}}},
	{begun, with(data(1, 1, 3, 4), api.FlagHold), api.End{State: api.Running, Session: 1, Number: 1, Sent: 1}},
}

func TestBroughtOn(t *testing.T) {
	for _, s := range onward {
		for before := range api.ResyncMax {
			b := at(t, plain, s.from)
			for range before {
				b.hear(data(9, 9, 1, 2), api.ErrStale, none(1))
			}
			b.tick(9, api.OK)
			if _, e := b.d.Receive(b.frame(s.u)); e != api.OK {
				t.Fatalf("P13.3: %+v: %d", s.u, e)
			}
			// The watchdog is fed, the odd units are forgotten.
			b.see(s.to)
			for range api.ResyncMax - 1 {
				b.hear(data(9, 9, 1, 2), api.ErrStale, none(1))
			}
			b.see(s.to)
			b.hear(data(9, 9, 1, 2), api.ErrStale, none(0))
			if got := b.d.See(); got.State != api.Idle {
				t.Fatalf("P13.3: behind %+v and four odd units: %+v", s.u, got)
			}
		}
	}
}

// What is answered with OK, but brings nothing on, leaves the odd units counted.
func TestNotBroughtOn(t *testing.T) {
	for _, a := range []struct {
		place  string
		u      api.Unit
		answer api.Unit
	}{{inAgree, echo(plain, 1), agreed(1)}, {begun, start(1), started(1)}} {
		b := at(t, plain, a.place)
		b.tick(2, api.OK)
		for range api.ResyncMax - 1 {
			b.hear(data(9, 9, 1, 2), api.ErrStale, none(1))
			b.hear(a.u, api.OK, a.answer)
		}
		want := looks(plain, a.place)
		want.Since = 2
		b.see(want)
		b.hear(data(9, 9, 1, 2), api.ErrStale, none(0))
		if got := b.d.See(); got.State != api.Idle || got.Since != 2 {
			t.Fatalf("P13.3: behind four odd units: %+v", got)
		}
	}
}

// A beginning session isn't fresh: neither the watchdog nor a latch gets anything of it.
func TestAWishIsNotFresh(t *testing.T) {
	b := fresh(t, plain)
	b.tick(10, api.OK)
	b.hear(wish(plain), api.OK, offer(plain, 1))
	b.see(api.End{State: api.Offered, Session: 1, Since: 10, Latched: api.ErrWatchdog})
	b.tick(1, api.OK)
	b.hear(wish(plain), api.ErrStale, offer(plain, 1))
	b.see(api.End{State: api.Offered, Session: 1, Since: 10, Latched: api.ErrWatchdog})
	b.hear(echo(plain, 1), api.OK, agreed(1))
	b.see(api.End{State: api.Agreed, Session: 1, Latched: api.ErrWatchdog})
	b.ack(api.ErrRequest)
	b.hear(start(1), api.OK, started(1))
	b.see(api.End{State: api.Running, Session: 1, Latched: api.ErrWatchdog, Request: true})
	b.ack(api.OK)
	b.see(api.End{State: api.Running, Session: 1})
}

func TestExhausted(t *testing.T) {
	// While it is Idle, again and again.
	b := over(t, plain, given(t, 9), 9)
	writes := b.m.Writes()
	b.hear(wish(plain), api.ErrExhausted, none(0))
	b.see(api.End{State: api.Done, Latched: api.ErrExhausted})
	// The latch, and the answer's error.
	b.log(2, record(1, api.ErrExhausted, 0, 0), record(2, api.ErrExhausted, 0, 0))
	for k := range 2 * api.ResyncMax {
		b.hear(wish(plain), api.ErrExhausted, none(0))
		b.see(api.End{State: api.Done, Latched: api.ErrExhausted})
		// It is latched already.
		b.log(3+k, record(3+k, api.ErrExhausted, 0, 0))
	}
	if b.m.Writes() != writes {
		t.Errorf("P13.3: ErrExhausted writes the memory")
	}
	// With a fault that was latched ahead of it.
	b = over(t, plain, given(t, 9), 9)
	b.tick(10, api.OK)
	b.hear(wish(plain), api.ErrExhausted, none(0))
	b.see(api.End{State: api.Done, Since: 10, Latched: api.ErrWatchdog})
	b.log(2, record(1, api.ErrWatchdog, 0, 0), record(2, api.ErrExhausted, 0, 0))
	// Behind a reset it is Idle, and finds the same.
	b.reset(0, api.OK)
	b.see(api.End{State: api.Idle})
	b.hear(wish(plain), api.ErrExhausted, none(0))
	b.log(4, record(3, api.ErrExhausted, 0, 0), record(4, api.ErrExhausted, 0, 0))
}

func TestExhaustedBehindTheFourthOddUnit(t *testing.T) {
	for _, place := range inSession {
		b := over(t, plain, given(t, 8), 9)
		b.bring(9, place)
		b.tick(2, api.OK)
		number := b.d.See().Number
		answer := none(9)
		if place == offered {
			answer = offer(plain, 9)
		}
		for range api.ResyncMax - 1 {
			b.hear(wish(plain), api.ErrStale, answer)
		}
		b.hear(wish(plain), api.ErrExhausted, none(0))
		if place == offered || place == inAgree {
			b.see(api.End{State: api.Done, Since: 2, Latched: api.ErrExhausted})
			// Behind the leaving: no session, no number.
			b.log(5, record(4, api.ErrExhausted, 0, 0), record(5, api.ErrExhausted, 0, 0))
			continue
		}
		b.see(api.End{State: api.Done, Since: 2, Latched: api.ErrResync})
		b.log(5, record(4, api.ErrResync, 9, number), record(5, api.ErrExhausted, 0, 0))
	}
	// Done behind the last number, the session that stayed goes.
	b := over(t, plain, given(t, 8), 9)
	b.bring(9, done)
	b.see(api.End{State: api.Done, Session: 9, Number: 100, Sent: 100, Latched: api.ErrExhausted})
	b.hear(wish(plain), api.ErrExhausted, none(0))
	b.see(api.End{State: api.Done, Latched: api.ErrExhausted})
	b.log(2, record(1, api.ErrExhausted, 9, 100), record(2, api.ErrExhausted, 0, 0))
}
