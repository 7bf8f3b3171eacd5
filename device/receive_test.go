package device_test

import (
	"encoding/binary"
	"testing"

	"parapet/api"
	"parapet/crc"
)

// raw: a frame with these fields, lawful or not, and a right check.
func raw(kind byte, code, session, number uint32, flags, length byte, b ...byte) []byte {
	f := []byte{kind}
	for _, w := range []uint32{code, session, number} {
		f = binary.BigEndian.AppendUint32(f, w)
	}
	f = append(f, flags, length)
	return crc.Seal(append(f, b...))
}

// strays: frames that are no unit for the device with the set small: each
// error of unit.Decode, a device's kinds, and other codes.
func strays(t *testing.T) (frames [][]byte, errs []api.Errno) {
	add := func(e api.Errno, list ...[]byte) {
		for _, f := range list {
			frames, errs = append(frames, f), append(errs, e)
		}
	}
	good := encode(t, data(1, 2, 1, 2), 7)
	sig := signature(small)
	add(api.ErrShort, nil, []byte{}, good[:1], good[:18])
	add(api.ErrLong, append(good, make([]byte, 7)...), make([]byte, 28), make([]byte, 5000))
	for i := range good {
		bad := append([]byte(nil), good...)
		bad[i] ^= 1 << (i % 8)
		add(api.ErrCheck, bad)
	}
	add(api.ErrCheck, good[:len(good)-1], append(append([]byte(nil), good...), 1))
	add(api.ErrKind, make([]byte, 19), raw(6, 7, 1, 1, 0, 0), raw(16, 7, 1, 0, 0, 0), raw(23, 7, 1, 0, 0, 0), raw(255, 7, 0, 0, 0, 0))
	add(api.ErrCode, raw(1, 0, 0, 0, 0, 4, sig...), raw(3, 0, 1, 0, 0, 0), raw(4, 0, 1, 2, 0, 2, 1, 2))
	add(api.ErrLength, raw(4, 7, 1, 2, 0, 3, 1, 2), raw(4, 7, 1, 2, 0, 1, 1, 2), raw(4, 7, 1, 2, 0, 0), raw(1, 7, 0, 0, 0, 3, sig[:3]...), raw(2, 7, 1, 0, 0, 5, append(sig, 0)...), raw(3, 7, 1, 0, 0, 1, 9), raw(5, 7, 1, 3, 0, 1, 9))
	// Session 0 where there must be one, and one where there is none.
	add(api.ErrSession, raw(2, 7, 0, 0, 0, 4, sig...), raw(3, 7, 0, 0, 0, 0), raw(4, 7, 0, 2, 0, 2, 1, 2), raw(5, 7, 0, 3, 0, 0), raw(1, 7, 1, 0, 0, 4, sig...))
	add(api.ErrNumber, raw(4, 7, 1, 0, 0, 2, 1, 2), raw(5, 7, 1, 0, 0, 0), raw(3, 7, 1, 1, 0, 0), raw(1, 7, 0, 1, 0, 4, sig...), raw(2, 7, 1, 1, 0, 4, sig...))
	add(api.ErrFlags, raw(4, 7, 1, 2, 16, 2, 1, 2), raw(5, 7, 1, 3, 1, 0), raw(3, 7, 1, 0, 8, 0), raw(1, 7, 0, 0, 1, 4, sig...), raw(2, 7, 1, 0, 2, 4, sig...))
	// A device's units, of this connection and of another.
	for _, code := range []uint32{7, 8} {
		for _, u := range []api.Unit{offer(small, 1), agreed(1), started(1), back(1, 2, 0, 1, 2), lastBack(1, 3), none(1), none(0)} {
			add(api.ErrKind, encode(t, u, code))
		}
	}
	// Another connection's.
	for _, code := range []uint32{1, 6, 8, 7 << 8, 7 << 24, 1<<31 + 7, greatest} {
		for _, u := range []api.Unit{wish(small), echo(small, 1), start(1), data(1, 2, 1, 2), last(1, 3)} {
			add(api.ErrCode, encode(t, u, code))
		}
	}
	return frames, errs
}

func TestStrays(t *testing.T) {
	frames, errs := strays(t)
	for _, place := range places {
		if place == down {
			continue
		}
		b := at(t, small, place)
		b.tick(3, api.OK)
		b.write([]byte{0x5c}, true, api.OK)
		want := looks(small, place)
		want.Since = 3
		n := noted(place)
		for i, frame := range frames {
			writes := b.m.Writes()
			b.hearBytes(frame, errs[i], nothing)
			b.see(want)
			n++
			// The record has the session and number as they stand.
			b.log(n, record(n, errs[i], want.Session, want.Number))
			if b.m.Writes() != writes {
				t.Errorf("P13.3: a frame that is answered %d writes the memory", errs[i])
			}
		}
		// None of them counted as odd, though there were many.
		if place == running {
			b.hear(data(1, 2, 5, 6), api.OK, back(1, 2, api.FlagHold, 0x5c))
		}
	}
}

func TestStraysAreNotOdd(t *testing.T) {
	frames, errs := strays(t)
	for _, place := range []string{offered, inAgree, begun, running} {
		for i, frame := range frames {
			b := at(t, small, place)
			for range 3 {
				b.hear(last(1, 2), api.ErrStale, none(1))
			}
			for range api.ResyncMax {
				b.hearBytes(frame, errs[i], nothing)
			}
			if got := b.d.See(); got.State != looks(small, place).State {
				t.Fatalf("P13.3: % x counts as odd", frame)
			}
			// The fourth odd one does.
			b.hear(last(1, 2), api.ErrStale, none(0))
			if got := b.d.See(); got.State != api.Idle {
				t.Fatalf("P13.3: behind four odd units: %+v", got)
			}
		}
	}
}

// asked is what a unit is answered in a place, and the state behind it.
type asked struct {
	u      api.Unit
	e      api.Errno
	answer api.Unit
	state  api.State
}

// odds: units that are odd in each place of session 1.
func odds() []api.Unit {
	return []api.Unit{
		echo(small, 2), echo(small, greatest), echo(small, 1<<8), start(2), start(greatest), start(1 << 24),
		data(2, 1, 1, 2), data(2, 2, 1, 2), data(greatest, 2, 1, 2), last(2, 3), last(greatest, 3),
		data(1, 3, 1, 2), data(1, 4, 1, 2), data(1, greatest, 1, 2),
		data(1, 2, 1), data(1, 2, 1, 2, 3), data(1, 2, 1, 2, 3, 4, 5, 6, 7, 8),
		last(1, 1), last(1, 2), last(1, 4), last(1, greatest),
	}
}

// each: what each kind does in a place.
func each(place string) []asked {
	signed := func(u api.Unit) api.Unit { u.Data = wrong(small); return u }
	var list []asked
	switch place {
	case idle:
		list = []asked{
			{wish(small), api.OK, offer(small, 1), api.Offered},
			{signed(wish(small)), api.ErrSignature, none(0), api.Idle},
			{echo(small, 1), api.ErrStale, none(0), api.Idle},
			{signed(echo(small, 1)), api.ErrStale, none(0), api.Idle},
			{start(1), api.ErrStale, none(0), api.Idle},
			{data(1, 1, 1, 2), api.ErrStale, none(0), api.Idle},
			{last(1, 3), api.ErrStale, none(0), api.Idle},
		}
	case offered:
		list = []asked{
			{wish(small), api.ErrStale, offer(small, 1), api.Offered},
			{signed(wish(small)), api.ErrSignature, none(1), api.Offered},
			{echo(small, 1), api.OK, agreed(1), api.Agreed},
			{signed(echo(small, 1)), api.ErrSignature, none(1), api.Offered},
			{signed(echo(small, 2)), api.ErrStale, none(1), api.Offered},
			{start(1), api.ErrStale, none(1), api.Offered},
			{data(1, 1, 1, 2), api.ErrStale, none(1), api.Offered},
			{last(1, 3), api.ErrStale, none(1), api.Offered},
		}
	case inAgree:
		list = []asked{
			{wish(small), api.ErrStale, none(1), api.Agreed},
			{signed(wish(small)), api.ErrSignature, none(1), api.Agreed},
			{echo(small, 1), api.OK, agreed(1), api.Agreed},
			{signed(echo(small, 1)), api.ErrSignature, none(1), api.Agreed},
			{signed(echo(small, 2)), api.ErrStale, none(1), api.Agreed},
			{start(1), api.OK, started(1), api.Running},
			{data(1, 1, 1, 2), api.ErrStale, none(1), api.Agreed},
			{last(1, 3), api.ErrStale, none(1), api.Agreed},
		}
	case begun, running:
		again := asked{start(1), api.OK, started(1), api.Running}
		next := asked{data(1, 2, 1, 2), api.OK, back(1, 1, 0, 0), api.Running}
		first := asked{data(1, 1, 1, 2), api.OK, back(1, 1, 0, 0), api.Running}
		if place == running {
			again = asked{start(1), api.ErrStale, none(1), api.Running}
			next.answer.Number = 2
			first = asked{data(1, 1, 1, 2), api.ErrStale, none(1), api.Running}
		}
		list = []asked{
			{wish(small), api.ErrStale, none(1), api.Running},
			{signed(wish(small)), api.ErrSignature, none(1), api.Running},
			{echo(small, 1), api.ErrStale, none(1), api.Running},
			{signed(echo(small, 1)), api.ErrStale, none(1), api.Running},
			again, first, next,
			{last(1, 3), api.OK, lastBack(1, 3), api.Done},
		}
	case done, empty:
		session, next := uint32(1), asked{wish(small), api.OK, offer(small, 2), api.Offered}
		if place == empty {
			session, next = 0, asked{wish(small), api.ErrExhausted, none(0), api.Done}
		}
		list = []asked{
			next,
			{signed(wish(small)), api.ErrSignature, none(session), api.Done},
			{echo(small, 1), api.ErrStale, none(session), api.Done},
			{signed(echo(small, 1)), api.ErrStale, none(session), api.Done},
			{start(1), api.ErrStale, none(session), api.Done},
			{data(1, 1, 1, 2), api.ErrStale, none(session), api.Done},
			{last(1, 3), api.ErrStale, none(session), api.Done},
		}
	case down:
		for _, u := range []api.Unit{wish(small), signed(wish(small)), echo(small, 1), start(1), data(1, 1, 1, 2), last(1, 3)} {
			list = append(list, asked{u, api.ErrCut, nothing, api.Down})
		}
		return list
	}
	was := looks(small, place)
	for _, u := range odds() {
		list = append(list, asked{u, api.ErrStale, none(was.Session), was.State})
	}
	return list
}

func TestEachKindInEachPlace(t *testing.T) {
	for _, place := range places {
		for _, a := range each(place) {
			b := at(t, small, place)
			b.d.Tick(4)
			was, n := b.d.See(), noted(place)
			b.hear(a.u, a.e, a.answer)
			if got := b.d.See(); got.State != a.state {
				t.Fatalf("P13.3: %+v while it is %s: state %d, not %d", a.u, place, got.State, a.state)
			}
			switch {
			case a.e == api.ErrCut:
				b.log(n)
			case a.e != api.OK:
				// Beside an error nothing changes but the count of odd units.
				b.see(was)
				b.log(n+1, record(n+1, a.e, was.Session, was.Number))
			case a.u.Kind != api.HostLast:
				b.log(n)
			}
		}
	}
}

func TestDownHearsNothing(t *testing.T) {
	frames, _ := strays(t)
	for _, a := range each(running) {
		frames = append(frames, encode(t, a.u, 7))
	}
	b := at(t, small, down)
	writes := b.m.Writes()
	for _, frame := range frames {
		// Ahead of unit.Decode's errors; and nothing is noted.
		b.hearBytes(frame, api.ErrCut, nothing)
		b.see(api.End{State: api.Down})
	}
	b.log(0)
	// Also if the power is on again: only a reset brings it back.
	b.m.On()
	for _, frame := range frames {
		b.hearBytes(frame, api.ErrCut, nothing)
	}
	b.see(api.End{State: api.Down})
	b.log(0)
	if b.m.Writes() != writes {
		t.Errorf("P13.3: while it is Down the memory is written")
	}
}

func TestHandshakeAgain(t *testing.T) {
	b := fresh(t, plain)
	b.bring(1, offered)
	b.tick(4, api.OK)
	b.hear(echo(plain, 1), api.OK, agreed(1))
	b.see(api.End{State: api.Agreed, Session: 1})
	// Again it is answered, and brings nothing on, however often.
	b.tick(3, api.OK)
	for range 2 * api.ResyncMax {
		b.hear(echo(plain, 1), api.OK, agreed(1))
		b.see(api.End{State: api.Agreed, Session: 1, Since: 3})
	}
	b.hear(start(1), api.OK, started(1))
	b.see(api.End{State: api.Running, Session: 1})
	b.tick(5, api.OK)
	for range 2 * api.ResyncMax {
		b.hear(start(1), api.OK, started(1))
		b.see(api.End{State: api.Running, Session: 1, Since: 5})
	}
	b.log(0)
	b.hear(data(1, 1, 8, 9), api.OK, back(1, 1, 0, 0))
	b.see(api.End{State: api.Running, Session: 1, Number: 1, Sent: 1, On: true, Out: []byte{8, 9}})
	b.hear(start(1), api.ErrStale, none(1))
	b.hear(echo(plain, 1), api.ErrStale, none(1))
	b.see(api.End{State: api.Running, Session: 1, Number: 1, Sent: 1, On: true, Out: []byte{8, 9}})
	b.log(2, record(1, api.ErrStale, 1, 1), record(2, api.ErrStale, 1, 1))
}

func TestNumbersThatAreLeftOut(t *testing.T) {
	b := fresh(t, plain)
	b.bring(1, begun)
	// What comes may leave numbers out; the device's own go on one by one.
	for i, n := range []uint32{3, 4, 10, 50, 98, 99} {
		v := []byte{byte(n), byte(i)}
		b.hear(data(1, n, v...), api.OK, back(1, uint32(i)+1, 0, 0))
		b.see(api.End{State: api.Running, Session: 1, Number: n, Sent: uint32(i) + 1, On: true, Out: v})
		b.hear(data(1, n, 1, 1), api.ErrStale, none(1))
		b.hear(data(1, n-1, 1, 1), api.ErrStale, none(1))
		b.hear(data(1, 1, 1, 1), api.ErrStale, none(1))
		b.see(api.End{State: api.Running, Session: 1, Number: n, Sent: uint32(i) + 1, On: true, Out: v})
	}
	b.hear(last(1, 100), api.OK, lastBack(1, 100))
	b.see(api.End{State: api.Done, Session: 1, Number: 100, Sent: 100, Latched: api.ErrExhausted})
}

func TestGreatNumbers(t *testing.T) {
	p := api.Param{Code: 7, Out: 1, In: 1, Watch: 10, Count: greatest}
	b := fresh(t, p)
	b.bring(1, begun)
	b.hear(data(1, 1<<31-1, 1), api.OK, back(1, 1, 0, 0))
	b.hear(data(1, 1<<31, 2), api.OK, back(1, 2, 0, 0))
	b.hear(last(1, greatest-1), api.ErrStale, none(1))
	b.hear(data(1, greatest-1, 3), api.OK, back(1, 3, 0, 0))
	b.hear(data(1, greatest, 4), api.ErrStale, none(1))
	b.hear(data(1, 1<<31, 4), api.ErrStale, none(1))
	b.see(api.End{State: api.Running, Session: 1, Number: greatest - 1, Sent: 3, On: true, Out: []byte{3}})
	b.hear(last(1, greatest), api.OK, lastBack(1, greatest))
	b.see(api.End{State: api.Done, Session: 1, Number: greatest, Sent: greatest, Latched: api.ErrExhausted})
}

func TestCountTwo(t *testing.T) {
	// The least Count: one data unit, then the last one.
	p := api.Param{Code: 7, Out: 1, In: 1, Watch: 10, Count: 2}
	b := fresh(t, p)
	b.bring(1, begun)
	b.hear(data(1, 2, 1), api.ErrStale, none(1))
	b.hear(last(1, 1), api.ErrStale, none(1))
	b.hear(data(1, 1, 1), api.OK, back(1, 1, 0, 0))
	b.hear(last(1, 1), api.ErrStale, none(1))
	b.hear(last(1, 2), api.OK, lastBack(1, 2))
}

func TestLast(t *testing.T) {
	for _, place := range []string{begun, running} {
		b := at(t, plain, place)
		was := looks(plain, place)
		b.hear(last(1, 99), api.ErrStale, none(1))
		b.hear(last(1, 101), api.ErrStale, none(1))
		b.see(was)
		b.tick(9, api.OK)
		b.hear(last(1, 100), api.OK, lastBack(1, 100))
		// It was fed, too.
		b.see(api.End{State: api.Done, Session: 1, Number: 100, Sent: 100, Latched: api.ErrExhausted})
		b.log(3, record(1, api.ErrStale, 1, was.Number), record(2, api.ErrStale, 1, was.Number), record(3, api.ErrExhausted, 1, 100))
		// It asks for nothing while it isn't running.
		b.ack(api.ErrRequest)
		// A new session brings the numbers back, and the latch shows the way.
		b.bring(2, begun)
		b.see(api.End{State: api.Running, Session: 2, Latched: api.ErrExhausted, Request: true})
		b.hear(data(2, 1, 3, 4), api.OK, back(2, 1, 7, 0))
		b.ack(api.OK)
		b.hear(data(2, 2, 5, 6), api.OK, back(2, 2, 0, 0))
		b.see(api.End{State: api.Running, Session: 2, Number: 2, Sent: 2, On: true, Out: []byte{5, 6}})
	}
}

func TestDoneCountsNothing(t *testing.T) {
	b := at(t, plain, done)
	for range 3 * api.ResyncMax {
		b.hear(data(1, 1, 1, 2), api.ErrStale, none(1))
		b.see(looks(plain, done))
	}
	b = at(t, plain, idle)
	for range 3 * api.ResyncMax {
		b.hear(data(1, 1, 1, 2), api.ErrStale, none(0))
		b.hear(api.Unit{Kind: api.HostParam, Data: wrong(plain)}, api.ErrSignature, none(0))
		b.see(looks(plain, idle))
	}
	// Nothing of that counts in the session to come.
	b.bring(1, offered)
	for range 3 {
		b.hear(start(1), api.ErrStale, none(1))
	}
	b.see(api.End{State: api.Offered, Session: 1})
}

func TestHold(t *testing.T) {
	b := fresh(t, plain)
	b.bring(1, begun)
	for i, flags := range []int{api.FlagHold, 0, 15, 7, 8 + 1, 1, 8 + 2, 2, 8 + 4, 4, 8, 8} {
		n := uint32(i) + 1
		v := []byte{byte(i) + 1, 0xee}
		want := api.End{State: api.Running, Session: 1, Number: n, Sent: n, On: true, Out: v}
		own := 0
		if flags&api.FlagHold != 0 {
			want.On, want.Out, own = false, nil, api.FlagPassive
		}
		b.hear(with(data(1, n, v...), flags), api.OK, back(1, n, own, 0))
		b.see(want)
	}
	// A hold ends with the session.
	b.giveUp(1, start(1))
	b.bring(2, begun)
	b.hear(data(2, 1, 1, 2), api.OK, back(2, 1, 7, 0))
	b.ack(api.OK)
	b.hear(data(2, 2, 1, 2), api.OK, back(2, 2, 0, 0))
}
