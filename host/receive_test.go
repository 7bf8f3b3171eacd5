package host_test

import (
	"encoding/binary"
	"testing"

	"parapet/api"
	"parapet/crc"
	"parapet/unit"
)

// raw: a frame with these fields, lawful or not, and a right check.
func raw(kind byte, code, session, number uint32, flags, length byte, b ...byte) []byte {
	f := []byte{kind}
	for _, w := range []uint32{code, session, number} {
		f = binary.BigEndian.AppendUint32(f, w)
	}
	f = append(f, flags, length)
	return crc.Seal(append(f, b...))
}

// strays: frames that are no unit for a host with the set plain: each error of
// unit.Decode, a host's kinds, and other codes.
func strays(t *testing.T) (frames [][]byte, errs []api.Errno) {
	add := func(e api.Errno, list ...[]byte) {
		for _, f := range list {
			frames, errs = append(frames, f), append(errs, e)
		}
	}
	good := encode(t, back(4, 2, 1), 7)
	sig := signature(plain)
	add(api.ErrShort, nil, []byte{}, good[:1], good[:18])
	add(api.ErrLong, append(good, make([]byte, 8)...), make([]byte, 28), make([]byte, 5000))
	for i := range good {
		bad := append([]byte(nil), good...)
		bad[i] ^= 1 << (i % 8)
		add(api.ErrCheck, bad)
	}
	add(api.ErrCheck, good[:len(good)-1], append(append([]byte(nil), good...), 1))
	add(api.ErrKind, make([]byte, 19), raw(6, 7, 4, 1, 0, 0), raw(16, 7, 4, 0, 0, 0), raw(23, 7, 4, 0, 0, 0), raw(255, 7, 0, 0, 0, 0))
	add(api.ErrCode, raw(17, 0, 9, 0, 0, 4, sig...), raw(18, 0, 4, 0, 0, 0), raw(20, 0, 4, 2, 0, 1, 1), raw(22, 0, 0, 0, 0, 0))
	add(api.ErrLength, raw(20, 7, 4, 2, 0, 2, 1), raw(20, 7, 4, 2, 0, 0, 1), raw(20, 7, 4, 2, 0, 0), raw(17, 7, 9, 0, 0, 3, sig[:3]...), raw(17, 7, 9, 0, 0, 5, append(sig, 0)...), raw(18, 7, 4, 0, 0, 1, 9), raw(19, 7, 4, 0, 0, 1, 9), raw(21, 7, 4, 100, 0, 1, 9), raw(22, 7, 4, 0, 0, 1, 9))
	add(api.ErrSession, raw(17, 7, 0, 0, 0, 4, sig...), raw(18, 7, 0, 0, 0, 0), raw(19, 7, 0, 0, 0, 0), raw(20, 7, 0, 2, 0, 1, 1), raw(21, 7, 0, 100, 0, 0))
	add(api.ErrNumber, raw(20, 7, 4, 0, 0, 1, 1), raw(21, 7, 4, 0, 0, 0), raw(17, 7, 9, 1, 0, 4, sig...), raw(18, 7, 4, 1, 0, 0), raw(19, 7, 4, 1, 0, 0), raw(22, 7, 4, 1, 0, 0))
	add(api.ErrFlags, raw(20, 7, 4, 2, 16, 1, 1), raw(20, 7, 4, 2, 128, 1, 1), raw(21, 7, 4, 100, 1, 0), raw(17, 7, 9, 0, 1, 4, sig...), raw(18, 7, 4, 0, 2, 0), raw(19, 7, 4, 0, 8, 0), raw(22, 7, 4, 0, 4, 0))
	// A host's units, of this connection and of another: the kind is asked first.
	for _, code := range []uint32{7, 8} {
		for _, u := range []api.Unit{wish(plain), echo(plain, 4), start(4), data(4, 2, 0, 1), last(4, 100)} {
			add(api.ErrKind, encode(t, u, code))
		}
	}
	// Another connection's.
	for _, code := range []uint32{1, 6, 8, 7 << 8, 7 << 24, 1<<31 + 7, greatest} {
		for _, u := range []api.Unit{offer(plain, 9), unsigned(plain, 9), agreed(4), started(4), back(4, 2, 1), lastBack(4, 100), none(4), none(0)} {
			add(api.ErrCode, encode(t, u, code))
		}
	}
	return frames, errs
}

func TestStrays(t *testing.T) {
	frames, errs := strays(t)
	for _, place := range places {
		b := at(t, plain, place)
		b.tick(3, api.OK)
		b.write([]byte{0x5c, 0x5d}, true, api.OK)
		want := looks(plain, place)
		want.Since = 3
		n := noted(place)
		for i, frame := range frames {
			b.hearBytes(frame, errs[i])
			b.see(want)
			n++
			// The record has the session and number as they stand.
			b.log(n, record(n, errs[i], want.Session, want.Number))
		}
		// And all the rest stays: the value, the hold, the numbers.
		if place == running {
			b.send(data(4, 2, api.FlagHold, 0x5c, 0x5d))
		}
	}
}

// told is what a unit is answered in a place, and how the host looks behind it.
type told struct {
	u     api.Unit
	e     api.Errno
	after api.End
}

// takes: what is accepted in a place, by a host with the set plain.
func takes(place string) []told {
	ok := func(u api.Unit, after api.End) told { return told{u, api.OK, after} }
	run := func(number, sent uint32, out ...byte) api.End {
		return api.End{State: api.Running, Session: 4, Number: number, Sent: sent, On: out != nil, Out: out}
	}
	finished := func(sent uint32) api.End {
		return api.End{State: api.Done, Session: 4, Number: 100, Sent: sent, Latched: api.ErrExhausted}
	}
	switch place {
	case idle:
		return []told{
			ok(offer(plain, 1), api.End{State: api.Offered, Session: 1}),
			ok(offer(plain, 4), api.End{State: api.Offered, Session: 4}),
			ok(offer(plain, greatest), api.End{State: api.Offered, Session: greatest}),
		}
	case gaveUp:
		return []told{
			ok(offer(plain, 5), api.End{State: api.Offered, Session: 5}),
			ok(offer(plain, 6), api.End{State: api.Offered, Session: 6}),
			ok(offer(plain, 1<<31), api.End{State: api.Offered, Session: 1 << 31}),
			ok(offer(plain, greatest), api.End{State: api.Offered, Session: greatest}),
		}
	case offered:
		return []told{ok(agreed(4), api.End{State: api.Agreed, Session: 4})}
	case inAgree:
		return []told{ok(started(4), run(0, 0))}
	case begun:
		return []told{
			ok(back(4, 1, 0x31), run(1, 0, 0x31)), ok(back(4, 2, 0x31), run(2, 0, 0x31)), ok(back(4, 99, 0), run(99, 0, 0)),
			ok(with(back(4, 1, 0x31), 7), run(1, 0, 0x31)), ok(with(back(4, 1, 0x31), 8), run(1, 0)), ok(with(back(4, 1, 0x31), 15), run(1, 0)),
			ok(lastBack(4, 100), finished(0)),
		}
	case running:
		return []told{
			ok(back(4, 2, 0x31), run(2, 1, 0x31)), ok(back(4, 3, 0x31), run(3, 1, 0x31)), ok(back(4, 99, 0), run(99, 1, 0)),
			ok(with(back(4, 2, 0x31), 7), run(2, 1, 0x31)), ok(with(back(4, 2, 0x31), 8), run(2, 1)), ok(with(back(4, 2, 0x31), 15), run(2, 1)),
			ok(lastBack(4, 100), finished(1)),
		}
	}
	return nil
}

// everyUnit: units of each kind that are near to what may be right in session 4.
func everyUnit() (list []api.Unit) {
	for _, s := range []uint32{1, 3, 4, 5, 4 << 8, 4 << 24, 1<<31 + 4, greatest} {
		list = append(list, offer(plain, s), unsigned(plain, s), agreed(s), started(s), none(s))
		for _, n := range []uint32{1, 2, 3, 99, 100, 101, 1 << 31, greatest} {
			list = append(list, back(s, n, 0x31), back(s, n, 1, 2), back(s, n, 1, 2, 3, 4, 5, 6, 7, 8), lastBack(s, n))
		}
	}
	return append(list, none(0))
}

// each: what each kind is answered in a place; what takes doesn't name is refused.
func each(place string) []told {
	list := takes(place)
	was := looks(plain, place)
	accepted := map[string]bool{}
	key := func(u api.Unit) string {
		u.Code = 7
		frame, _ := unit.Encode(u)
		return string(frame)
	}
	for _, a := range list {
		accepted[key(a.u)] = true
	}
	for _, u := range everyUnit() {
		switch {
		case accepted[key(u)]:
		case was.State == api.Idle && u.Kind == api.DevOffer && u.Session > was.Session && u.Data[3] == wrong(plain)[3]:
			list = append(list, told{u, api.ErrSignature, was})
		case was.State == api.Idle && u.Kind == api.DevOffer && u.Session > was.Session:
			list = append(list, told{u, api.OK, api.End{State: api.Offered, Session: u.Session}})
		case was.State == api.Running && u.Kind == api.DevData && u.Session == 4 && len(u.Data) == 1 && u.Number > was.Number && u.Number < 100:
			list = append(list, told{u, api.OK, api.End{State: api.Running, Session: 4, Number: u.Number, Sent: was.Sent, On: true, Out: u.Data}})
		default:
			list = append(list, told{u, api.ErrStale, was})
		}
	}
	return list
}

func TestEachKindInEachPlace(t *testing.T) {
	for _, place := range places {
		taken := 0
		for _, a := range each(place) {
			b := at(t, plain, place)
			b.tick(4, api.OK)
			n := noted(place)
			b.hear(a.u, a.e)
			want := a.after
			switch {
			case a.e != api.OK:
				// Beside an error nothing changes but the records.
				want.Since = 4
				b.see(want)
				b.log(n+1, record(n+1, a.e, want.Session, want.Number))
			case a.u.Kind == api.DevLast:
				b.see(want)
				b.log(1, record(1, api.ErrExhausted, 4, 100))
				taken++
			default:
				// It was fed, and nothing is noted.
				b.see(want)
				b.log(n)
				taken++
			}
		}
		if awaits := place != doneIn && place != doneOut; (taken > 0) != awaits {
			t.Errorf("while it is %s, %d units were taken", place, taken)
		}
	}
}

// What was accepted isn't accepted again, nor what was accepted ahead of it.
func TestAgain(t *testing.T) {
	b := fresh(t, plain)
	units := []api.Unit{offer(plain, 4), agreed(4), started(4), back(4, 1, 5), back(4, 2, 6), with(back(4, 3, 7), 8), back(4, 99, 8), lastBack(4, 100)}
	n := 0
	for i, u := range units {
		b.hear(u, api.OK)
		if u.Kind == api.DevLast {
			n++
		}
		was := b.h.See()
		for k := range 2 * (i + 1) {
			b.hear(units[k/2], api.ErrStale)
			n++
			b.see(was)
			b.log(n, record(n, api.ErrStale, was.Session, was.Number))
		}
	}
}

func TestOffers(t *testing.T) {
	b := at(t, plain, gaveUp)
	for _, s := range []uint32{1, 2, 3, 4} {
		b.hear(offer(plain, s), api.ErrStale)
		// Both at once: the session is asked first.
		b.hear(unsigned(plain, s), api.ErrStale)
	}
	b.hear(unsigned(plain, 5), api.ErrSignature)
	b.hear(unsigned(plain, greatest), api.ErrSignature)
	// A session that was refused isn't accepted: it may come again.
	b.see(api.End{State: api.Idle, Session: 4})
	b.log(10, record(8, api.ErrStale, 4, 0), record(9, api.ErrSignature, 4, 0), record(10, api.ErrSignature, 4, 0))
	b.hear(offer(plain, 5), api.OK)
	b.see(api.End{State: api.Offered, Session: 5})
	// While it has one, no other is taken, with whatever signature.
	for _, s := range []uint32{4, 5, 6, greatest} {
		b.hear(offer(plain, s), api.ErrStale)
		b.hear(unsigned(plain, s), api.ErrStale)
	}
	b.see(api.End{State: api.Offered, Session: 5})
}

// Behind the greatest session there is none.
func TestTheGreatestSession(t *testing.T) {
	b := fresh(t, plain)
	b.bring(greatest, running)
	b.see(api.End{State: api.Running, Session: greatest, Number: 1, Sent: 1, On: true, Out: []byte{0xa0}})
	b.send(data(greatest, 2, 0, 0, 0))
	for range api.ResyncMax {
		b.h.Send()
	}
	b.see(api.End{State: api.Idle, Session: greatest, Latched: api.ErrResync})
	for _, s := range []uint32{1, greatest - 1, greatest} {
		b.hear(offer(plain, s), api.ErrStale)
	}
	b.send(wish(plain))
	b.reset()
	b.hear(offer(plain, 1), api.OK)
}

// Each byte of the signature counts.
func TestSignatures(t *testing.T) {
	other := plain
	other.Watch++
	list := [][]byte{{0, 0, 0, 0}, {0xff, 0xff, 0xff, 0xff}, signature(small), signature(other)}
	for i := range 32 {
		s := signature(plain)
		s[i/8] ^= 0x80 >> (i % 8)
		list = append(list, s)
	}
	s := signature(plain)
	list = append(list, []byte{s[3], s[2], s[1], s[0]})
	b := fresh(t, plain)
	for i, s := range list {
		b.hear(api.Unit{Kind: api.DevOffer, Session: uint32(i) + 1, Data: s}, api.ErrSignature)
		b.see(api.End{State: api.Idle})
		b.log(i+1, record(i+1, api.ErrSignature, 0, 0))
	}
	b.hear(offer(plain, 1), api.OK)
}

func TestGreatNumbers(t *testing.T) {
	p := api.Param{Code: 7, Out: 1, In: 1, Watch: 10, Count: greatest}
	b := fresh(t, p)
	b.bring(1, begun)
	b.hear(back(1, 1<<31-1, 1), api.OK)
	b.hear(back(1, 1<<31, 2), api.OK)
	b.hear(back(1, 1<<31-1, 2), api.ErrStale)
	b.hear(lastBack(1, greatest-1), api.ErrStale)
	b.hear(back(1, greatest-1, 3), api.OK)
	b.hear(back(1, greatest, 4), api.ErrStale)
	b.hear(back(1, 1<<31, 4), api.ErrStale)
	b.see(api.End{State: api.Running, Session: 1, Number: greatest - 1, On: true, Out: []byte{3}})
	b.hear(lastBack(1, greatest), api.OK)
	b.see(api.End{State: api.Done, Session: 1, Number: greatest, Latched: api.ErrExhausted})
}

// As many bytes as In, no more and no fewer, whatever Out is.
func TestLengths(t *testing.T) {
	for _, p := range sets {
		b := fresh(t, p)
		b.bring(1, begun)
		for n := 1; n <= api.MaxData; n++ {
			if n != p.In {
				b.hear(back(1, 1, make([]byte, n)...), api.ErrStale)
			}
		}
		b.see(api.End{State: api.Running, Session: 1})
		b.hear(back(1, 1, value(p, 1)...), api.OK)
		b.see(api.End{State: api.Running, Session: 1, Number: 1, On: true, Out: value(p, 1)})
	}
}

func TestLast(t *testing.T) {
	for _, place := range []string{begun, running} {
		b := at(t, plain, place)
		was := looks(plain, place)
		for _, n := range []uint32{1, 2, 99, 101, greatest} {
			b.hear(lastBack(4, n), api.ErrStale)
		}
		b.hear(lastBack(5, 100), api.ErrStale)
		b.see(was)
		b.tick(9, api.OK)
		b.hear(lastBack(4, 100), api.OK)
		// It was fed, too; what it has sent stays.
		want := api.End{State: api.Done, Session: 4, Number: 100, Sent: was.Sent, Latched: api.ErrExhausted}
		b.see(want)
		b.log(7, record(6, api.ErrStale, 4, was.Number), record(7, api.ErrExhausted, 4, 100))
		// It asks for nothing while it isn't running, and takes and sends nothing.
		b.ack(api.ErrRequest)
		b.silent(api.ErrDone)
		b.hear(lastBack(4, 100), api.ErrStale)
		b.hear(offer(plain, 5), api.ErrStale)
		b.see(want)
		b.log(9, record(8, api.ErrStale, 4, 100), record(9, api.ErrStale, 4, 100))
		// Only a reset brings it back.
		b.reset()
		b.bring(4, running)
		b.see(looks(plain, running))
	}
}

func TestDoneTakesNothing(t *testing.T) {
	for _, place := range []string{doneOut, doneIn} {
		b := at(t, plain, place)
		want := looks(plain, place)
		n := noted(place)
		for _, u := range everyUnit() {
			b.hear(u, api.ErrStale)
			b.see(want)
			n++
			b.log(n, record(n, api.ErrStale, 4, want.Number))
		}
		b.silent(api.ErrDone)
	}
}

func TestHold(t *testing.T) {
	b := at(t, plain, begun)
	for i, flags := range []int{api.FlagHold, 0, 15, 7, 8 + 1, 1, 8 + 2, 2, 8 + 4, 4, 8, 8} {
		n := uint32(i) + 1
		v := []byte{byte(i) + 1}
		want := api.End{State: api.Running, Session: 4, Number: n, On: true, Out: v}
		if flags&api.FlagHold != 0 {
			want.On, want.Out = false, nil
		}
		b.hear(with(back(4, n, v...), flags), api.OK)
		b.see(want)
	}
	// A hold ends with the session.
	for range api.ResyncMax + 1 {
		b.h.Send()
	}
	b.bring(5, begun)
	b.ack(api.OK)
	b.hear(back(5, 1, 3), api.OK)
	b.see(api.End{State: api.Running, Session: 5, Number: 1, On: true, Out: []byte{3}})
}
