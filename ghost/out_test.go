package ghost_test

import (
	"testing"

	"parapet/api"
)

// faults: any code but OK is one, lawful or not.
var faults = []api.Errno{api.ErrWatchdog, api.ErrResync, api.ErrExhausted, 1, -1, least, top, 1 << 32}

func TestRule4(t *testing.T) {
	bothSides(t, func(t *testing.T, s api.Side) {
		n, other := two(), otherSide(s)
		// There is no value.
		for _, data := range [][]byte{nil, {}, {0}, {5}, {5, 6}} {
			breaks(t, n, 4, on(s, 0, data...))
			breaks(t, n, 4, then(sends(s, data...), on(s, 0, data...))...)
			breaks(t, n, 4, then(sends(s, data...), fresh(s), on(s, 0, data...))...)
		}
		// It is another one.
		begin := holds(s, 5, 6)
		good(t, n, then(begin, on(s, 0, 5, 6), off(s, 0), off(s, 0, 0, 0), on(s, 0, 5, 6))...)
		for _, data := range [][]byte{nil, {}, {0}, {0, 0}, {5}, {6}, {5, 7}, {6, 5}, {5, 6, 0}, {0, 5, 6}, {5, 6, 5, 6}} {
			breaks(t, n, 4, then(begin, on(s, 0, data...))...)
		}
		// It has no byte.
		empty := then(sends(s), taken(s, 1, 1))
		good(t, n, then(empty, off(s, 0))...)
		for _, data := range [][]byte{nil, {}, {0}, {5}} {
			breaks(t, n, 4, then(empty, on(s, 0, data...))...)
		}
		breaks(t, n, 4, then(begin, sent(other, 1, 2), taken(s, 1, 2), on(s, 0, 5, 6))...)
		// A value of bytes 0 is one.
		good(t, n, then(sends(s, 0, 0), taken(s, 1, 1, 0, 0), on(s, 0, 0, 0))...)
		// It is that of the last one taken, and of this end, of this connection.
		next := then(begin, sent(other, 1, 2, 7), taken(s, 1, 2, 7))
		good(t, n, then(next, on(s, 0, 7))...)
		breaks(t, n, 4, then(next, on(s, 0, 5, 6))...)
		breaks(t, n, 4, then(begin, on(other, 0, 5, 6))...)
		breaks(t, n, 4, then(begin, at(1, on(s, 0, 5, 6)))...)
		// What was sent isn't yet taken.
		breaks(t, n, 4, then(begin, sent(other, 1, 2, 7), on(s, 0, 7))...)
	})
}

// Behind a reset there is no value; that of the other end stays.
func TestRule4Resets(t *testing.T) {
	bothSides(t, func(t *testing.T, s api.Side) {
		n, other := two(), otherSide(s)
		breaks(t, n, 4, then(holds(s, 5), reset(s), on(s, 0, 5))...)
		breaks(t, n, 4, then(holds(s, 5), reset(s), fresh(s), on(s, 0, 5))...)
		good(t, n, then(holds(s, 5), reset(other), on(s, 0, 5))...)
		good(t, n, then(holds(s, 5), at(1, reset(s)), on(s, 0, 5))...)
		good(t, n, then(holds(s, 5), reset(s), sent(other, 1, 2, 6), taken(s, 1, 2, 6), on(s, 0, 6))...)
		breaks(t, n, 4, then(holds(s, 5), reset(s), sent(other, 1, 2, 6), taken(s, 1, 2, 6), on(s, 0, 5))...)
		good(t, n, then(holds(s, 5), reset(s), off(s, 0, 0))...)
	})
}

// Behind another session the device shows the value no more; the host may.
func TestRule4Sessions(t *testing.T) {
	n := two()
	for _, number := range []uint32{0, 2, greatest} {
		breaks(t, n, 4, then(holds(d, 5), session(number), on(d, 0, 5))...)
		good(t, n, then(holds(d, 5), session(number), off(d, 0, 0))...)
		good(t, n, then(holds(h, 5), session(number), on(h, 0, 5))...)
		good(t, n, then(holds(d, 5), session(number), session(1), on(d, 0, 5))...)
		good(t, n, then(holds(d, 5), at(1, session(number)), on(d, 0, 5))...)
	}
	good(t, n, then(holds(d, 5), session(1), on(d, 0, 5))...)
	next := then(holds(d, 5), session(2), sent(h, 2, 1, 6))
	breaks(t, n, 4, then(next, on(d, 0, 6))...)
	good(t, n, then(next, taken(d, 2, 1, 6), on(d, 0, 6))...)
	breaks(t, n, 4, then(next, taken(d, 2, 1, 6), on(d, 0, 5))...)
	breaks(t, n, 4, then(next, taken(d, 2, 1, 6), session(1), on(d, 0, 6))...)
	// The session 0, ahead of all others.
	good(t, n, sent(h, 0, 0, 5), taken(d, 0, 0, 5), on(d, 0, 5))
	breaks(t, n, 4, sent(h, 0, 0, 5), taken(d, 0, 0, 5), session(1), on(d, 0, 5))
}

func TestRule5(t *testing.T) {
	bothSides(t, func(t *testing.T, s api.Side) {
		n := one()
		for size := range 12 {
			good(t, n, off(s, 0, make([]byte, size)...))
			good(t, n, then(holds(s, 5), off(s, 131, make([]byte, size)...))...)
			for i := range size {
				for _, b := range []byte{1, 0x80, 0xff} {
					data := make([]byte, size)
					data[i] = b
					breaks(t, n, 5, off(s, 0, data...))
					breaks(t, n, 5, off(s, 100, data...))
				}
			}
		}
		// The value is no fail-safe one.
		breaks(t, n, 5, then(holds(s, 5), off(s, 0, 5))...)
		breaks(t, n, 5, off(s, 0, make([]byte, 1<<16)...), off(s, 0, append(make([]byte, 1<<16), 1)...))
	})
}

func TestRule6(t *testing.T) {
	bothSides(t, func(t *testing.T, s api.Side) {
		n, other := one(), otherSide(s)
		for _, code := range faults {
			breaks(t, n, 6, then(holds(s, 5), on(s, code, 5))...)
			good(t, n, then(holds(s, 5), off(s, code, 0))...)
			// A fault that was latched ahead of it, and is told again.
			breaks(t, n, 6, off(s, code), session(1), sent(other, 1, 1, 5), fresh(s), taken(s, 1, 1, 5), on(s, code, 5))
		}
		good(t, n, then(holds(s, 5), tick(s, 9), on(s, 0, 5))...)
		breaks(t, n, 6, then(holds(s, 5), tick(s, 10), on(s, 0, 5))...)
		breaks(t, n, 6, then(holds(s, 5), tick(s, 11), on(s, 0, 5))...)
		breaks(t, n, 6, then(holds(s, 5), tick(s, greatest), on(s, 0, 5))...)
		breaks(t, n, 6, then(holds(s, 5), tick(s, 9), on(s, 0, 5), tick(s, 1), on(s, 0, 5))...)
		// What is taken is fresh only where that is told.
		breaks(t, n, 6, session(1), sent(other, 1, 1, 5), tick(s, 10), taken(s, 1, 1, 5), on(s, 0, 5))
		good(t, n, session(1), sent(other, 1, 1, 5), tick(s, 10), fresh(s), taken(s, 1, 1, 5), on(s, 0, 5))
		good(t, n, then(holds(s, 5), tick(other, 10), on(s, 0, 5))...)
	})
}

func TestRule7(t *testing.T) {
	bothSides(t, func(t *testing.T, s api.Side) {
		n, other := two(), otherSide(s)
		good(t, n, tick(s, 0), off(s, 0))
		good(t, n, tick(s, 9), off(s, 0))
		for _, ticks := range []uint32{10, 11, 20, 1 << 20, 1 << 31, greatest} {
			breaks(t, n, 7, tick(s, ticks), off(s, 0))
			breaks(t, n, 7, tick(s, ticks), off(s, 0, 0, 0))
			for _, code := range faults {
				good(t, n, tick(s, ticks), off(s, code))
			}
		}
		// In several facts, with outputs between.
		var facts []api.Fact
		for range 9 {
			facts = append(facts, tick(s, 1), off(s, 0))
		}
		good(t, n, facts...)
		breaks(t, n, 7, then(facts, tick(s, 1), off(s, 0))...)
		breaks(t, n, 7, tick(s, 5), tick(s, 5), off(s, 0))
		breaks(t, n, 7, tick(s, greatest), tick(s, greatest), off(s, 0))
		breaks(t, n, 7, tick(s, greatest), tick(s, 1), off(s, 0))
		breaks(t, n, 7, tick(s, 1<<31), tick(s, 1<<31), off(s, 0))
		// Something fresh between, or a reset; of that end, of that connection.
		good(t, n, tick(s, 9), fresh(s), tick(s, 9), off(s, 0))
		breaks(t, n, 7, tick(s, 9), fresh(s), tick(s, 10), off(s, 0))
		good(t, n, tick(s, 10), fresh(s), off(s, 0))
		good(t, n, tick(s, greatest), fresh(s), tick(s, 9), off(s, 0))
		good(t, n, tick(s, 10), reset(s), off(s, 0))
		good(t, n, tick(s, 9), reset(s), tick(s, 9), off(s, 0))
		breaks(t, n, 7, tick(s, 9), fresh(other), tick(s, 1), off(s, 0))
		breaks(t, n, 7, tick(s, 9), reset(other), tick(s, 1), off(s, 0))
		breaks(t, n, 7, tick(s, 9), at(1, fresh(s)), at(1, reset(s)), tick(s, 1), off(s, 0))
		good(t, n, tick(other, 10), at(1, tick(s, 10)), off(s, 0))
		good(t, n, tick(s, 9), tick(other, 1), at(1, tick(s, 1)), off(s, 0))
		// Neither a session nor what is sent, taken or acknowledged ends the ticks.
		breaks(t, n, 7, session(1), sent(other, 1, 1, 5), tick(s, 10), taken(s, 1, 1, 5), session(2), sent(s, 2, 1, 5), ack(s), off(s, 0))
		// A fault that is told ends them neither.
		breaks(t, n, 7, tick(s, 10), off(s, 100), off(s, 0))
		breaks(t, n, 7, off(s, 100), fresh(s), ack(s), tick(s, 10), off(s, 0))
	})
}

func TestRule8(t *testing.T) {
	bothSides(t, func(t *testing.T, s api.Side) {
		n, other := two(), otherSide(s)
		for _, code := range faults {
			breaks(t, n, 8, off(s, code), off(s, 0))
			breaks(t, n, 8, off(s, code), off(s, code), off(s, 0))
			breaks(t, n, 8, off(s, code), ack(s), off(s, 0))
			breaks(t, n, 8, off(s, code), fresh(s), off(s, 0))
			good(t, n, off(s, code), fresh(s), ack(s), off(s, 0))
			good(t, n, off(s, code), reset(s), off(s, 0))
		}
		latched := []api.Fact{off(s, 100)}
		// An acknowledgement ahead of something fresh counts for nothing; nor does one of another end.
		breaks(t, n, 8, then(latched, ack(s), fresh(s), off(s, 0))...)
		good(t, n, then(latched, ack(s), fresh(s), ack(s), off(s, 0))...)
		good(t, n, then(latched, fresh(s), ack(s), ack(s), off(s, 0))...)
		good(t, n, then(latched, fresh(s), ack(s), fresh(s), off(s, 0))...)
		breaks(t, n, 8, then(latched, fresh(other), ack(s), off(s, 0))...)
		breaks(t, n, 8, then(latched, fresh(s), ack(other), off(s, 0))...)
		breaks(t, n, 8, then(latched, at(1, off(s, 100)), at(1, fresh(s)), at(1, ack(s)), off(s, 0))...)
		breaks(t, n, 8, then(latched, reset(other), at(1, reset(s)), off(s, 0))...)
		// Something fresh that came ahead of the fault isn't since it.
		breaks(t, n, 8, fresh(s), off(s, 100), ack(s), off(s, 0))
		breaks(t, n, 8, fresh(s), ack(s), off(s, 100), off(s, 0))
		// On again without an acknowledgement, and with one.
		value := then(holds(s, 5), off(s, 100), sent(other, 1, 2, 6), fresh(s), taken(s, 1, 2, 6))
		breaks(t, n, 8, then(value, on(s, 0, 6))...)
		good(t, n, then(value, ack(s), on(s, 0, 6))...)
		// Nothing is latched then, and nothing is to be acknowledged any more.
		good(t, n, then(value, ack(s), on(s, 0, 6), off(s, 0), on(s, 0, 6), ack(s), off(s, 0))...)
		breaks(t, n, 8, then(value, ack(s), on(s, 0, 6), off(s, 131), off(s, 0))...)
		breaks(t, n, 8, then(value, ack(s), on(s, 0, 6), off(s, 131), ack(s), off(s, 0))...)
	})
}

// Something fresh is taken back by another fault, and by ticks that come to the watch.
func TestRule8TakenBack(t *testing.T) {
	bothSides(t, func(t *testing.T, s api.Side) {
		n := one()
		// Another fault is told behind it, then none.
		breaks(t, n, 8, off(s, 100), off(s, 131), off(s, 0))
		good(t, n, off(s, 100), off(s, 131), fresh(s), ack(s), off(s, 0))
		breaks(t, n, 8, off(s, 100), fresh(s), off(s, 131), ack(s), off(s, 0))
		good(t, n, off(s, 100), fresh(s), off(s, 131), fresh(s), ack(s), off(s, 0))
		breaks(t, n, 8, off(s, 100), fresh(s), off(s, 131), off(s, 100), ack(s), off(s, 0))
		// The same one told again takes nothing back.
		good(t, n, off(s, 100), fresh(s), off(s, 100), off(s, 100), ack(s), off(s, 0))
		// Ticks: up to the watch, and to it.
		good(t, n, off(s, 100), fresh(s), tick(s, 9), ack(s), off(s, 0))
		breaks(t, n, 7, off(s, 100), fresh(s), tick(s, 10), ack(s), off(s, 0))
		breaks(t, n, 8, off(s, 100), fresh(s), tick(s, 10), ack(s), off(s, 100), fresh(s), off(s, 0))
		good(t, n, off(s, 100), fresh(s), tick(s, 10), ack(s), off(s, 100), fresh(s), ack(s), off(s, 0))
		// One that comes behind those ticks counts for nothing, also where something fresh comes behind it.
		breaks(t, n, 8, off(s, 100), fresh(s), tick(s, 10), ack(s), fresh(s), off(s, 0))
		breaks(t, n, 8, off(s, 100), fresh(s), tick(s, 9), tick(s, 1), ack(s), fresh(s), off(s, 0))
		breaks(t, n, 8, off(s, 100), fresh(s), tick(s, greatest), tick(s, 0), ack(s), fresh(s), off(s, 0))
		good(t, n, off(s, 100), fresh(s), tick(s, 9), ack(s), tick(s, 1), fresh(s), off(s, 0))
		// An acknowledgement that was taken ahead of the ticks stays, and so does one ahead of something fresh.
		good(t, n, off(s, 100), fresh(s), ack(s), tick(s, 10), fresh(s), off(s, 0))
		// At a watch below 1, where ticks come to it at once.
		breaks(t, watching(0, 0), 7, off(s, 100), fresh(s), tick(s, 0), ack(s), off(s, 0))
	})
}

// One acknowledgement ends one fault: an output uses it up.
func TestRule8UsedUp(t *testing.T) {
	bothSides(t, func(t *testing.T, s api.Side) {
		n := one()
		breaks(t, n, 8, off(s, 100), fresh(s), ack(s), off(s, 100), off(s, 0))
		breaks(t, n, 8, off(s, 100), fresh(s), ack(s), off(s, 131), off(s, 0))
		// Something fresh is still there, where the same fault was told.
		good(t, n, off(s, 100), fresh(s), ack(s), off(s, 100), ack(s), off(s, 0))
		breaks(t, n, 8, off(s, 100), fresh(s), ack(s), off(s, 131), ack(s), off(s, 0))
		// The other end's output uses nothing up.
		good(t, n, off(s, 100), fresh(s), ack(s), off(otherSide(s), 0), off(s, 0))
		good(t, two(), off(s, 100), fresh(s), ack(s), at(1, off(s, 0)), at(1, off(s, 100)), off(s, 0))
		// Behind a reset neither the fault nor the acknowledgement is there, nor what was fresh.
		breaks(t, n, 8, off(s, 100), fresh(s), ack(s), reset(s), off(s, 100), off(s, 0))
		breaks(t, n, 8, off(s, 100), fresh(s), reset(s), off(s, 100), ack(s), off(s, 0))
		breaks(t, n, 8, off(s, 100), fresh(s), reset(s), ack(s), off(s, 100), off(s, 0))
		// What came, and was acknowledged, while nothing was latched counts for nothing behind a fault.
		breaks(t, n, 8, fresh(s), ack(s), off(s, 0), off(s, 100), ack(s), off(s, 0))
		breaks(t, n, 8, off(s, 100), fresh(s), ack(s), off(s, 0), ack(s), off(s, 131), ack(s), off(s, 0))
	})
}

// Each two rules at once, and three: the first of them is told.
func TestWhichRuleIsTold(t *testing.T) {
	bothSides(t, func(t *testing.T, s api.Side) {
		n := one()
		value := holds(s, 5)
		// 4 and 6, by a fault that is told and by the ticks; 4 and 7; 4 and 8.
		breaks(t, n, 4, then(value, on(s, 100, 6))...)
		breaks(t, n, 4, then(value, tick(s, 10), on(s, 0, 6))...)
		breaks(t, n, 4, tick(s, 10), on(s, 0, 6))
		breaks(t, n, 4, then(value, off(s, 100), on(s, 0, 6))...)
		breaks(t, n, 4, then(value, off(s, 100), tick(s, 10), on(s, 0, 6))...)
		// 5 and 7; 5 and 8; all of them.
		breaks(t, n, 5, tick(s, 10), off(s, 0, 1))
		breaks(t, n, 5, off(s, 100), off(s, 0, 1))
		breaks(t, n, 5, off(s, 100), tick(s, 10), off(s, 0, 1))
		// 6 and 7; 6 and 8; all of them.
		breaks(t, n, 6, then(value, tick(s, 10), on(s, 0, 5))...)
		breaks(t, n, 6, then(value, off(s, 100), tick(s, 10), on(s, 0, 5))...)
		breaks(t, n, 6, then(value, off(s, 100), on(s, 131, 5))...)
		// 7 and 8, acknowledged or not.
		breaks(t, n, 7, tick(s, 10), off(s, 100), off(s, 0))
		breaks(t, n, 7, off(s, 100), tick(s, 10), off(s, 0))
		breaks(t, n, 7, off(s, 100), fresh(s), ack(s), tick(s, 10), off(s, 0))
		// Each alone.
		breaks(t, n, 4, then(value, on(s, 0, 6))...)
		breaks(t, n, 5, off(s, 0, 1))
		breaks(t, n, 6, then(value, on(s, 100, 5))...)
		breaks(t, n, 7, tick(s, 10), off(s, 0))
		breaks(t, n, 8, off(s, 100), off(s, 0))
	})
	// 4 by another session, with each of the rest.
	old := then(holds(d, 5), session(2))
	breaks(t, one(), 4, then(old, on(d, 0, 5))...)
	breaks(t, one(), 4, then(old, on(d, 100, 5))...)
	breaks(t, one(), 4, then(old, tick(d, 10), on(d, 0, 5))...)
	breaks(t, one(), 4, then(old, off(d, 100), on(d, 0, 5))...)
}
