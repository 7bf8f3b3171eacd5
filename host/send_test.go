package host_test

import (
	"bytes"
	"testing"

	"parapet/api"
	"parapet/unit"
)

func TestSendInEachPlace(t *testing.T) {
	for _, p := range sets {
		for _, place := range places {
			if !reachable(p, place) {
				continue
			}
			b := at(t, p, place)
			b.tick(p.Watch-1, api.OK)
			want := looks(p, place)
			want.Since = p.Watch - 1
			u, ok := says(p, place)
			if !ok {
				for range 2 * api.ResyncMax {
					b.silent(api.ErrDone)
				}
				b.see(want)
				continue
			}
			b.send(u)
			n := noted(place)
			switch u.Kind {
			case api.HostLast:
				want.State, want.Sent, want.Latched, want.On, want.Out = api.Done, u.Number, api.ErrExhausted, false, nil
				n++
			case api.HostData:
				want.Sent = u.Number
			}
			// Sending is nothing fresh: the watchdog counts on.
			b.see(want)
			b.log(n)
		}
	}
}

// While it is Idle it wants a session, however often, and misses nothing.
func TestWishesForEver(t *testing.T) {
	for _, place := range []string{idle, gaveUp} {
		b := at(t, plain, place)
		for range 10 * api.ResyncMax {
			b.send(wish(plain))
			b.see(looks(plain, place))
		}
		b.log(0)
		// None of these sendings counts in the session to come.
		b.hear(offer(plain, 5), api.OK)
		for range api.ResyncMax {
			b.send(echo(plain, 5))
			b.see(api.End{State: api.Offered, Session: 5})
		}
		b.send(wish(plain))
		b.see(api.End{State: api.Idle, Session: 5})
	}
}

// holdSent: the i-th sending in a place (from 0 on), nothing having come.
func (b *bench) holdSent(place string, i uint32) {
	b.t.Helper()
	u, _ := says(b.set, place)
	if u.Kind == api.HostData {
		u.Number += i
	}
	b.send(u)
}

func TestMissedSendings(t *testing.T) {
	for _, place := range inSession {
		b := at(t, plain, place)
		b.tick(2, api.OK)
		want := looks(plain, place)
		want.Since = 2
		sent := want.Sent
		// The first, and three that are missed.
		for i := range uint32(api.ResyncMax) {
			b.holdSent(place, i)
			if want.State == api.Running {
				want.Sent = sent + i + 1
			}
			b.see(want)
			b.log(0)
		}
		// The fourth that is missed: it gives the session up, which stays to be seen.
		b.send(wish(plain))
		after := api.End{State: api.Idle, Session: 4, Since: 2}
		n := 0
		if want.State == api.Running {
			after.Latched = api.ErrResync
			n = 1
			// Noted with the number of then.
			b.log(n, record(1, api.ErrResync, 4, want.Number))
		}
		b.see(after)
		b.log(n)
		// It doesn't take what that session brings too late.
		for _, u := range []api.Unit{offer(plain, 4), agreed(4), started(4), back(4, 2, 5), lastBack(4, 100), none(4)} {
			b.hear(u, api.ErrStale)
		}
		b.see(after)
		for range 2 * api.ResyncMax {
			b.send(wish(plain))
			b.see(after)
		}
		// The numbers are new in a new session.
		b.bring(5, begun)
		flags := api.FlagPassive
		if n == 1 {
			b.see(api.End{State: api.Running, Session: 5, Latched: api.ErrResync, Request: true})
			flags = 7
		}
		b.send(data(5, 1, flags, 0, 0))
		b.hear(back(5, 1, 9), api.OK)
	}
}

// brings: what brings a host on from a place, and where to.
var brings = []struct {
	from, to string
	u        api.Unit
}{
	{idle, offered, offer(plain, 4)},
	{gaveUp, offered, offer(plain, 5)},
	{offered, inAgree, agreed(4)},
	{inAgree, begun, started(4)},
	{begun, running, back(4, 1, 0xa0)},
	{running, running, back(4, 2, 0xa0)},
	{running, running, back(4, 99, 0xa0)},
	{running, running, with(back(4, 2, 0xa0), api.FlagHold)},
}

// A sending or some, something fresh, and sendings again: they are counted anew.
func TestFreshBetweenSendings(t *testing.T) {
	for _, x := range brings {
		for before := range api.ResyncMax + 1 {
			b := at(t, plain, x.from)
			for range before {
				b.h.Send()
			}
			b.tick(9, api.OK)
			b.hear(x.u, api.OK)
			if got := b.h.See().Since; got != 0 {
				t.Fatalf("P14.3: behind %+v: Since %d", x.u, got)
			}
			state := b.h.See().State
			for i := range api.ResyncMax {
				b.h.Send()
				if got := b.h.See(); got.State != state {
					t.Fatalf("P14.2: behind %d sendings, %+v, and %d more: %+v", before, x.u, i+1, got)
				}
			}
			b.log(0)
			b.send(wish(plain))
			if got := b.h.See(); got.State != api.Idle || (got.Latched == api.ErrResync) != (state == api.Running) {
				t.Fatalf("P14.2: behind %d sendings, %+v, and five more: %+v", before, x.u, got)
			}
		}
	}
}

// What isn't accepted leaves the count as it is: the host still waits.
func TestNothingFreshBetweenSendings(t *testing.T) {
	for _, place := range inSession {
		frames, errs := strays(t)
		for _, a := range each(place) {
			if a.e != api.OK {
				frames, errs = append(frames, encode(t, a.u, 7)), append(errs, a.e)
			}
		}
		for k, frame := range frames {
			b := at(t, plain, place)
			for i := range uint32(api.ResyncMax) {
				b.hearBytes(frame, errs[k])
				b.holdSent(place, i)
				b.hearBytes(frame, errs[k])
			}
			b.send(wish(plain))
			if got := b.h.See().State; got != api.Idle {
				t.Fatalf("P14.2: behind five sendings, with % x between: state %d", frame, got)
			}
		}
	}
}

func TestNumbers(t *testing.T) {
	for _, p := range []api.Param{plain, {Code: 9, Out: 3, In: 2, Watch: 5, Count: 300}} {
		b := fresh(t, p)
		b.bring(1, begun)
		flags := api.FlagPassive
		for n := uint32(1); n < p.Count; n++ {
			b.send(data(1, n, flags, own(p)...))
			v := value(p, byte(n))
			b.see(func() api.End {
				if n == 1 {
					return api.End{State: api.Running, Session: 1, Sent: 1}
				}
				return api.End{State: api.Running, Session: 1, Number: n - 1, Sent: n, On: true, Out: value(p, byte(n-1))}
			}())
			b.hear(back(1, n, v...), api.OK)
			b.see(api.End{State: api.Running, Session: 1, Number: n, Sent: n, On: true, Out: v})
			flags = 0
		}
		b.log(0)
		b.send(last(1, p.Count))
		b.see(api.End{State: api.Done, Session: 1, Number: p.Count - 1, Sent: p.Count, Latched: api.ErrExhausted})
		b.log(1, record(1, api.ErrExhausted, 1, p.Count-1))
		for range 2 * api.ResyncMax {
			b.silent(api.ErrDone)
		}
	}
}

// Numbers go on where sendings bring nothing, or what comes leaves some out.
func TestNumbersGoOn(t *testing.T) {
	b := at(t, plain, begun)
	sent := uint32(0)
	number := uint32(0)
	for i := range uint32(12) {
		flags := api.FlagPassive
		if number > 0 {
			flags = 0
		}
		for range 1 + i%api.ResyncMax {
			sent++
			b.send(data(4, sent, flags, 0, 0))
		}
		number += 1 + i%5
		b.hear(back(4, number, byte(i)), api.OK)
		b.see(api.End{State: api.Running, Session: 4, Number: number, Sent: sent, On: true, Out: []byte{byte(i)}})
	}
}

func TestCountTwo(t *testing.T) {
	// The least Count: one data unit, then the last one.
	p := api.Param{Code: 7, Out: 1, In: 1, Watch: 10, Count: 2}
	b := fresh(t, p)
	b.bring(1, begun)
	b.send(data(1, 1, 1, 0))
	b.see(api.End{State: api.Running, Session: 1, Sent: 1})
	b.send(last(1, 2))
	b.see(api.End{State: api.Done, Session: 1, Sent: 2, Latched: api.ErrExhausted})
	b.silent(api.ErrDone)
	b.log(1, record(1, api.ErrExhausted, 1, 0))
	b = fresh(t, p)
	b.bring(1, begun)
	b.hear(back(1, 2, 1), api.ErrStale)
	b.hear(lastBack(1, 1), api.ErrStale)
	b.hear(back(1, 1, 1), api.OK)
	b.hear(lastBack(1, 1), api.ErrStale)
	b.hear(lastBack(1, 2), api.OK)
	b.see(api.End{State: api.Done, Session: 1, Number: 2, Latched: api.ErrExhausted})
	b.silent(api.ErrDone)
}

// The fourth missed sending comes just where the last number would: it gives up first.
func TestGivingUpAheadOfTheLastNumber(t *testing.T) {
	p := plain
	p.Count = api.ResyncMax + 1
	b := fresh(t, p)
	b.bring(1, begun)
	for n := range uint32(api.ResyncMax) {
		b.send(data(1, n+1, 1, 0, 0))
	}
	b.send(wish(p))
	b.see(api.End{State: api.Idle, Session: 1, Latched: api.ErrResync})
	// And with one number fewer the last one is sent.
	p.Count = api.ResyncMax
	b = fresh(t, p)
	b.bring(1, begun)
	for n := range uint32(api.ResyncMax - 1) {
		b.send(data(1, n+1, 1, 0, 0))
	}
	b.send(last(1, api.ResyncMax))
	b.see(api.End{State: api.Done, Session: 1, Sent: api.ResyncMax, Latched: api.ErrExhausted})
}

// Only data units have flags, a number and the application's value; each frame has the host's Code.
func TestFrames(t *testing.T) {
	for _, p := range sets {
		b := fresh(t, p)
		v := bytes.Repeat([]byte{0x99}, p.Out)
		b.write(v, true, api.OK)
		b.tick(p.Watch, api.OK)
		b.send(wish(p))
		b.hear(offer(p, 300), api.OK)
		b.send(echo(p, 300))
		b.hear(agreed(300), api.OK)
		b.send(start(300))
		b.hear(started(300), api.OK)
		b.send(data(300, 1, 15, v...))
		if p.Count == 2 {
			b.send(last(300, 2))
		}
		frame, _ := fresh(t, p).h.Send()
		if u, e := unit.Decode(frame); e != api.OK || u.Code != p.Code || u.Kind != api.HostParam || u.Session != 0 || u.Number != 0 || u.Flags != 0 || !bytes.Equal(u.Data, signature(p)) {
			t.Errorf("P14.2: a wish: %+v, %d", u, e)
		}
	}
}

// A frame byte by byte, of the chapter's set.
func TestAFrameByHand(t *testing.T) {
	p := api.Param{Code: 7, Out: 2, In: 1, Watch: 10, Count: 100}
	b := fresh(t, p)
	// Chapter 9's signature.
	b.send(api.Unit{Kind: api.HostParam, Code: 7, Data: []byte{0xf8, 0xb4, 0x5b, 0x50}})
	b.hear(api.Unit{Kind: api.DevOffer, Code: 7, Session: 3, Data: []byte{0xf8, 0xb4, 0x5b, 0x50}}, api.OK)
	b.hear(agreed(3), api.OK)
	b.hear(started(3), api.OK)
	b.write([]byte{0xab, 0xcd}, true, api.OK)
	for n := uint32(1); n < 9; n++ {
		b.exchange(3, n)
	}
	// Chapter 4's frame.
	got, e := b.h.Send()
	want := []byte{4, 0, 0, 0, 7, 0, 0, 0, 3, 0, 0, 0, 9, 8, 2, 0xab, 0xcd, 0x70, 0x70, 0x8a, 0x0d}
	if e != api.OK || !bytes.Equal(got, want) {
		t.Errorf("P14.2: Send: % x, %d, not % x", got, e, want)
	}
}

// The flags of a data unit, each up and down: what must be done ahead of it,
// with a host that is Running behind number 1.
func TestFlags(t *testing.T) {
	hold := func(b *bench) { b.write([]byte{0, 0}, true, api.OK) }
	free := func(b *bench) { b.write([]byte{0, 0}, false, api.OK) }
	held := func(b *bench) { b.hear(with(back(4, 2, 5), api.FlagHold), api.OK) }
	unheld := func(b *bench) { b.hear(back(4, 3, 5), api.OK) }
	late := func(b *bench) { b.tick(10, api.OK) }
	next := func(b *bench) { b.hear(back(4, 4, 5), api.OK) }
	ack := func(b *bench) { b.ack(api.OK) }
	after := func(b *bench) { b.hear(back(4, 5, 5), api.OK) }
	for _, x := range []struct {
		name  string
		do    []func(b *bench)
		flags int
	}{
		{"on", nil, 0},
		{"just not late", []func(*bench){func(b *bench) { b.tick(9, api.OK) }}, 0},
		{"the device holds", []func(*bench){held}, 1},
		{"the device holds no more", []func(*bench){held, unheld}, 0},
		{"the application holds", []func(*bench){hold}, 8},
		{"the application holds no more", []func(*bench){hold, free}, 0},
		{"both hold", []func(*bench){hold, held}, 9},
		{"latched", []func(*bench){late}, 5},
		{"latched, the application holds", []func(*bench){late, hold}, 13},
		{"latched, and it asks", []func(*bench){late, next}, 7},
		{"latched, it asks, the application holds", []func(*bench){late, next, hold}, 15},
		{"latched and held, and it asks", []func(*bench){late, held}, 7},
		{"latched again", []func(*bench){late, next, late}, 5},
		{"acknowledged", []func(*bench){late, next, ack}, 1},
		{"acknowledged, the application holds", []func(*bench){late, hold, next, ack}, 9},
		{"acknowledged, and a value came", []func(*bench){late, next, ack, after}, 0},
	} {
		b := at(t, plain, running)
		for _, do := range x.do {
			do(b)
		}
		got, e := b.h.Send()
		want := b.frame(data(4, 2, x.flags, 0, 0))
		if e != api.OK || !bytes.Equal(got, want) {
			t.Errorf("P14.2: flags: %s: % x, %d, not % x", x.name, got, e, want)
		}
	}
	// They are of the moment: what happens later is told by the next frame.
	b := at(t, plain, running)
	b.send(data(4, 2, 0, 0, 0))
	late(b)
	b.send(data(4, 3, 5, 0, 0))
	next(b)
	b.send(data(4, 4, 7, 0, 0))
	ack(b)
	hold(b)
	b.send(data(4, 5, 9, 0, 0))
	after(b)
	b.send(data(4, 6, 8, 0, 0))
}
