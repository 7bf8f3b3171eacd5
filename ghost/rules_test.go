package ghost_test

import (
	"testing"

	"parapet/api"
)

// everyKind: a fact of each kind that is good at the beginning, or would be by a lawful Conn and Side.
func everyKind() []api.Fact {
	return []api.Fact{sent(h, 1, 1, 5), taken(h, 0, 0), session(1), fresh(h), tick(h, 1), ack(h), reset(h), off(h, 0, 0)}
}

func TestRule1Kind(t *testing.T) {
	for _, kind := range []api.FactKind{0, -1, 9, 10, 100, least, top, 1 << 32, 1<<32 + 1} {
		for _, f := range everyKind() {
			f.Kind = kind
			breaks(t, one(), 1, f)
			breaks(t, one(), 1, then(holds(d, 5), f)...)
		}
	}
	for i, f := range everyKind() {
		if f.Kind != api.FactKind(i+1) {
			t.Fatalf("the kinds that are tried: %+v", f)
		}
		good(t, one(), sent(d, 0, 0), f)
	}
}

func TestRule1Conn(t *testing.T) {
	for _, f := range everyKind() {
		for _, conn := range []int{-1, 1, 2, 7, 8, least, top, 1 << 32} {
			breaks(t, one(), 1, at(conn, f))
			breaks(t, one(), 1, sent(d, 0, 0), at(conn, f))
		}
		good(t, two(), sent(d, 0, 0), at(1, sent(d, 0, 0)), at(1, f))
		breaks(t, two(), 1, at(2, f))
		breaks(t, api.Net{}, 1, f)
	}
}

func TestRule1Side(t *testing.T) {
	for _, f := range everyKind() {
		for _, s := range []api.Side{0, 3, -1, 4, least, top, 1<<32 + 1} {
			f.Side = s
			breaks(t, one(), 1, f)
			breaks(t, one(), 1, sent(d, 0, 0), f)
		}
	}
}

// Rule 1 is told ahead of every other that the fact breaks.
func TestRule1First(t *testing.T) {
	for rule, facts := range broken() {
		ahead, last := facts[:len(facts)-1], facts[len(facts)-1]
		f := last
		f.Side = 3
		breaks(t, one(), 1, then(ahead, f)...)
		f = last
		f.Conn = -1
		breaks(t, one(), 1, then(ahead, f)...)
		f = last
		f.Kind += 8
		breaks(t, one(), 1, then(ahead, f)...)
		if rule > 1 {
			breaks(t, one(), rule, facts...)
		}
	}
}

// What isn't said of a kind doesn't count: the other fields may hold anything.
func TestUnusedFields(t *testing.T) {
	n := one()
	for _, f := range []api.Fact{fresh(d), ack(d), reset(d), session(1), tick(d, 0), sent(h, 1, 1, 5)} {
		full := api.Fact{Kind: f.Kind, Side: f.Side, Session: 1, Number: 1, On: true, Code: 77, Data: []byte{5}}
		if f.Kind == api.FactTick {
			full.Number = 0
		}
		// Nothing of it is shown, latched or taken.
		good(t, n, full, off(d, 0), off(h, 0, 0))
		breaks(t, n, 4, full, on(d, 0, 5))
		good(t, n, full, session(1), sent(h, 1, 1, 5), taken(d, 1, 1, 5), on(d, 0, 5))
	}
	f := on(d, 0, 5)
	f.Session, f.Number = 9, 9
	good(t, n, then(holds(d, 5), f, off(d, 0))...)
	breaks(t, n, 3, then(holds(d, 5), f, taken(d, 1, 1, 5))...)
	f = taken(d, 1, 1, 5)
	f.On, f.Code = true, 100
	good(t, n, then(sends(d, 5), f, off(d, 0), on(d, 0, 5))...)
}

// Sessions are noted with either side: it is always the device's.
func TestSessionOfEitherSide(t *testing.T) {
	for _, s := range []api.Side{h, d} {
		f := session(3)
		f.Side = s
		good(t, one(), f, sent(h, 3, 1, 5), taken(d, 3, 1, 5))
		breaks(t, one(), 2, sent(h, 3, 1, 5), f, taken(d, 3, 1, 5))
		good(t, one(), sent(d, 3, 1, 5), f, taken(h, 3, 1, 5))
	}
}

func TestRule2Unsent(t *testing.T) {
	bothSides(t, func(t *testing.T, s api.Side) {
		n, other := two(), otherSide(s)
		it := taken(s, 1, 1, 5)
		good(t, n, session(1), sent(other, 1, 1, 5), it)
		// By nobody, by itself, by the other end of another connection, by both of another one.
		breaks(t, n, 2, it)
		breaks(t, n, 2, session(1), it)
		breaks(t, n, 2, session(1), sent(s, 1, 1, 5), it)
		breaks(t, n, 2, session(1), at(1, session(1)), at(1, sent(other, 1, 1, 5)), it)
		breaks(t, n, 2, session(1), at(1, sent(other, 1, 1, 5)), at(1, sent(s, 1, 1, 5)), sent(s, 1, 1, 5), it)
		breaks(t, n, 2, at(1, session(1)), session(1), sent(other, 1, 1, 5), at(1, it))
		good(t, n, at(1, session(1)), at(1, sent(other, 1, 1, 5)), at(1, it))
		// Behind it, though not yet.
		breaks(t, n, 2, session(1), sent(other, 1, 2, 5), it)
	})
}

// Each word of a unit counts.
func TestRule2OtherWords(t *testing.T) {
	bothSides(t, func(t *testing.T, s api.Side) {
		n, other := one(), otherSide(s)
		begin := []api.Fact{session(2), sent(other, 2, 3, 5, 6)}
		good(t, n, then(begin, taken(s, 2, 3, 5, 6))...)
		for _, f := range []api.Fact{
			taken(s, 1, 3, 5, 6), taken(s, 3, 3, 5, 6), taken(s, 0, 3, 5, 6), taken(s, greatest, 3, 5, 6), taken(s, 1<<16|2, 3, 5, 6),
			taken(s, 2, 2, 5, 6), taken(s, 2, 4, 5, 6), taken(s, 2, 0, 5, 6), taken(s, 2, greatest, 5, 6), taken(s, 3, 2, 5, 6),
			taken(s, 2, 3, 5, 7), taken(s, 2, 3, 6, 6), taken(s, 2, 3, 6, 5), taken(s, 2, 3, 5), taken(s, 2, 3, 6),
			taken(s, 2, 3, 5, 6, 0), taken(s, 2, 3, 0, 5, 6), taken(s, 2, 3, 5, 6, 5, 6), taken(s, 2, 3), taken(s, 2, 3, []byte{}...),
			taken(s, 2, 3, make([]byte, 2)...), taken(s, 2, 3, make([]byte, 100)...),
		} {
			breaks(t, n, 2, then(begin, f)...)
		}
		// Bytes that are no text, and bytes 0.
		for _, data := range [][]byte{{0}, {0, 0}, {0xff}, {0xff, 0xfe, 0x80}, {0xc3, 0x28}, {0xef, 0xbf, 0xbd}} {
			good(t, n, session(2), sent(other, 2, 3, data...), taken(s, 2, 3, data...))
			breaks(t, n, 2, session(2), sent(other, 2, 3, data...), taken(s, 2, 3, append(data, 0)...))
			breaks(t, n, 2, session(2), sent(other, 2, 3, 0x7f, 0x80), taken(s, 2, 3, data...))
		}
		// Longer data than a unit has: each byte counts.
		for _, size := range []int{8, 9, 16, 100, 1 << 12} {
			data := make([]byte, size)
			data[size-1] = 1
			good(t, n, session(2), sent(other, 2, 3, data...), taken(s, 2, 3, data...), on(s, 0, data...))
			breaks(t, n, 2, session(2), sent(other, 2, 3, data...), taken(s, 2, 3, make([]byte, size)...))
			breaks(t, n, 4, session(2), sent(other, 2, 3, data...), taken(s, 2, 3, data...), on(s, 0, make([]byte, size)...))
		}
		// None and empty are the same.
		for _, a := range [][]byte{nil, {}, make([]byte, 0, 4)} {
			for _, b := range [][]byte{nil, {}, make([]byte, 0, 4)} {
				p, q := sent(other, 2, 3), taken(s, 2, 3)
				p.Data, q.Data = a, b
				good(t, n, session(2), p, q)
				breaks(t, n, 2, session(2), p, taken(s, 2, 3, 0))
			}
		}
	})
}

// A unit may be sent often, and with other data: each counts.
func TestRule2SentOften(t *testing.T) {
	bothSides(t, func(t *testing.T, s api.Side) {
		n, other := one(), otherSide(s)
		begin := []api.Fact{session(1), sent(other, 1, 1, 5), sent(other, 1, 1, 6), sent(other, 1, 1, 5), sent(other, 1, 2, 7), sent(other, 1, 9, 8)}
		good(t, n, then(begin, taken(s, 1, 1, 5))...)
		good(t, n, then(begin, taken(s, 1, 1, 6))...)
		good(t, n, then(begin, taken(s, 1, 1, 6), taken(s, 1, 2, 7), taken(s, 1, 9, 8))...)
		good(t, n, then(begin, taken(s, 1, 9, 8))...)
		breaks(t, n, 2, then(begin, taken(s, 1, 1, 7))...)
		breaks(t, n, 2, then(begin, taken(s, 1, 2, 5))...)
		// What was taken stays sent: taken once more it isn't above.
		breaks(t, n, 3, then(begin, taken(s, 1, 1, 6), taken(s, 1, 1, 5))...)
	})
}

// Ahead of its session nothing counts that the host sent with it; behind it, sent anew, it does.
func TestRule2AheadOfTheSession(t *testing.T) {
	n, it := two(), taken(d, 1, 1, 5)
	ahead := []api.Fact{sent(h, 1, 1, 5), sent(h, 1, 2, 5), session(1)}
	breaks(t, n, 2, then(ahead, it)...)
	breaks(t, n, 2, then(ahead, taken(d, 1, 2, 5))...)
	good(t, n, then(ahead, sent(h, 1, 1, 5), it)...)
	breaks(t, n, 2, then(ahead, sent(h, 1, 1, 5), it, taken(d, 1, 2, 5))...)
	// The same session once more: it all begins again.
	breaks(t, n, 2, then(ahead, sent(h, 1, 1, 5), session(1), it)...)
	good(t, n, then(ahead, sent(h, 1, 1, 5), session(1), sent(h, 1, 1, 5), it)...)
	// Another session takes nothing of this one away; but it is another one.
	breaks(t, n, 2, session(1), sent(h, 1, 1, 5), session(2), it)
	breaks(t, n, 2, session(1), sent(h, 1, 1, 5), session(2), session(1), it)
	// A session of another connection, or a reset, changes nothing of it.
	good(t, n, session(1), sent(h, 1, 1, 5), at(1, session(1)), at(1, session(2)), it)
	breaks(t, n, 2, sent(h, 1, 1, 5), at(1, session(1)), it)
	good(t, n, session(1), sent(h, 1, 1, 5), reset(h), it)
	good(t, n, session(1), sent(h, 1, 1, 5), reset(d), it)
	// What it sent with another session ahead of that one isn't of the present one either.
	breaks(t, n, 2, sent(h, 2, 1, 5), session(1), taken(d, 2, 1, 5))
	breaks(t, n, 2, sent(h, 2, 1, 5), session(1), session(2), taken(d, 2, 1, 5))
}

// What the device sent counts, however many sessions begin behind it.
func TestRule2OfADevicesUnit(t *testing.T) {
	n, it := one(), taken(h, 1, 1, 5)
	good(t, n, sent(d, 1, 1, 5), it)
	good(t, n, sent(d, 1, 1, 5), session(1), it)
	good(t, n, session(1), sent(d, 1, 1, 5), session(1), it)
	good(t, n, session(1), sent(d, 1, 1, 5), session(2), session(3), it)
	good(t, n, session(1), sent(d, 1, 1, 5), reset(d), reset(h), session(2), it)
	good(t, n, sent(d, greatest, greatest, 5), taken(h, greatest, greatest, 5))
}

// A device takes in its present session alone.
func TestRule2OtherSession(t *testing.T) {
	n := one()
	breaks(t, n, 2, sent(h, 1, 1, 5), taken(d, 1, 1, 5))
	breaks(t, n, 2, session(2), sent(h, 1, 1, 5), taken(d, 1, 1, 5))
	breaks(t, n, 2, session(1), sent(h, 1, 1, 5), sent(h, 2, 1, 5), session(3), taken(d, 2, 1, 5))
	breaks(t, n, 2, session(3), session(2), sent(h, 3, 1, 5), taken(d, 3, 1, 5))
	good(t, n, session(3), session(2), sent(h, 2, 1, 5), taken(d, 2, 1, 5))
	good(t, n, session(greatest), sent(h, greatest, greatest, 5), taken(d, greatest, greatest, 5))
	// A reset ends no session, as far as facts tell.
	good(t, n, session(2), reset(d), sent(h, 2, 1, 5), taken(d, 2, 1, 5))
	breaks(t, n, 2, session(2), reset(d), sent(h, 0, 1, 5), taken(d, 0, 1, 5))
	// Ahead of all sessions it is 0, and behind a session 0 again.
	good(t, n, sent(h, 0, 0), taken(d, 0, 0))
	good(t, n, session(1), session(0), sent(h, 0, 1, 5), taken(d, 0, 1, 5))
	breaks(t, n, 2, sent(h, 0, 1, 5), session(0), taken(d, 0, 1, 5))
}

func TestRule3(t *testing.T) {
	bothSides(t, func(t *testing.T, s api.Side) {
		n, other := one(), otherSide(s)
		begin := []api.Fact{session(4), sent(other, 4, 5, 1), taken(s, 4, 5, 1)}
		good(t, n, begin...)
		for _, c := range []struct {
			rule            int
			session, number uint32
		}{
			{3, 4, 5}, {3, 4, 4}, {3, 4, 0}, {0, 4, 6}, {0, 4, greatest},
			{3, 3, 5}, {3, 3, 6}, {3, 3, greatest}, {3, 0, 0}, {3, 1, greatest},
			{0, 5, 5}, {0, 5, 4}, {0, 5, 0}, {0, 5, 1}, {0, greatest, 0},
		} {
			facts := then(begin, session(c.session), sent(other, c.session, c.number, 1), taken(s, c.session, c.number, 1))
			if c.rule == 0 {
				good(t, n, facts...)
			} else {
				breaks(t, n, 3, facts...)
			}
		}
		// The last one that was taken counts, with whatever data.
		breaks(t, n, 3, then(begin, sent(other, 4, 6, 2), taken(s, 4, 6, 2), taken(s, 4, 6, 2))...)
		breaks(t, n, 3, then(begin, sent(other, 4, 5, 9), taken(s, 4, 5, 9))...)
		breaks(t, n, 3, then(begin, sent(other, 4, 9, 2), taken(s, 4, 9, 2), sent(other, 4, 8, 2), taken(s, 4, 8, 2))...)
		// The other end, and another connection, have taken nothing yet.
		good(t, n, then(begin, sent(s, 4, 1, 1), taken(other, 4, 1, 1))...)
		good(t, two(), then(begin, at(1, session(4)), at(1, sent(other, 4, 1, 1)), at(1, taken(s, 4, 1, 1)))...)
		// What was only sent, or wished, isn't taken.
		good(t, n, session(4), sent(other, 4, 9, 1), sent(s, 4, 9, 1), sent(other, 4, 1, 1), fresh(s), taken(s, 4, 1, 1))
	})
}

// The first one that an end takes may have any number and session, 0 too; then it is the last one.
func TestRule3First(t *testing.T) {
	bothSides(t, func(t *testing.T, s api.Side) {
		n, other := one(), otherSide(s)
		begin := []api.Fact{sent(other, 0, 0, 1), taken(s, 0, 0, 1)}
		good(t, n, begin...)
		breaks(t, n, 3, then(begin, taken(s, 0, 0, 1))...)
		good(t, n, then(begin, sent(other, 0, 1, 1), taken(s, 0, 1, 1))...)
		good(t, n, then(begin, session(1), sent(other, 1, 0, 1), taken(s, 1, 0, 1))...)
		good(t, n, session(greatest), sent(other, greatest, greatest, 1), taken(s, greatest, greatest, 1))
		breaks(t, n, 3, session(greatest), sent(other, greatest, greatest, 1), taken(s, greatest, greatest, 1), session(0), sent(other, 0, 0, 1), taken(s, 0, 0, 1))
	})
}

// A host has taken none behind its reset; a device's last one stays.
func TestRule3Resets(t *testing.T) {
	n := one()
	host := []api.Fact{session(2), sent(d, 2, 2, 5), sent(d, 2, 1, 5), sent(d, 1, 9, 5), sent(d, 0, 0, 5), taken(h, 2, 2, 5)}
	for _, f := range []api.Fact{taken(h, 2, 2, 5), taken(h, 2, 1, 5), taken(h, 1, 9, 5), taken(h, 0, 0, 5)} {
		breaks(t, n, 3, then(host, f)...)
		breaks(t, n, 3, then(host, reset(d), f)...)
		good(t, n, then(host, reset(h), f)...)
		breaks(t, n, 3, then(host, reset(h), f, f)...)
		breaks(t, two(), 3, then(host, at(1, reset(h)), f)...)
	}
	dev := []api.Fact{session(2), sent(h, 2, 2, 5), sent(h, 2, 1, 5), sent(h, 2, 3, 5), taken(d, 2, 2, 5)}
	for _, f := range []api.Fact{taken(d, 2, 2, 5), taken(d, 2, 1, 5)} {
		breaks(t, n, 3, then(dev, f)...)
		breaks(t, n, 3, then(dev, reset(h), f)...)
		breaks(t, n, 3, then(dev, reset(d), f)...)
		breaks(t, n, 3, then(dev, reset(d), reset(d), reset(h), f)...)
	}
	good(t, n, then(dev, reset(d), taken(d, 2, 3, 5))...)
	breaks(t, n, 3, then(dev, reset(d), session(1), sent(h, 1, 9, 5), taken(d, 1, 9, 5))...)
	good(t, n, then(dev, reset(d), session(3), sent(h, 3, 0, 5), taken(d, 3, 0, 5))...)
}

// Rule 2 is told ahead of rule 3; a fact that breaks one isn't the last one taken, as far as one can see.
func TestRules2And3(t *testing.T) {
	bothSides(t, func(t *testing.T, s api.Side) {
		other := otherSide(s)
		begin := []api.Fact{session(4), sent(other, 4, 5, 1), taken(s, 4, 5, 1)}
		breaks(t, one(), 2, then(begin, taken(s, 4, 5, 2))...)
		breaks(t, one(), 2, then(begin, taken(s, 4, 4, 1))...)
		breaks(t, one(), 2, then(begin, taken(s, 3, 9, 1))...)
	})
	breaks(t, one(), 2, session(4), sent(h, 4, 5, 1), taken(d, 4, 5, 1), session(3), sent(h, 4, 4, 1), taken(d, 4, 4, 1))
	breaks(t, one(), 2, session(4), sent(h, 4, 5, 1), taken(d, 4, 5, 1), session(4), taken(d, 4, 5, 1))
}
