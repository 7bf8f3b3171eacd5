package world_test

import (
	"testing"

	"parapet/api"
)

const (
	h = api.AtHost
	d = api.AtDevice
)

// silent: what both ends of the chapter's set show as long as nothing flows.
var silent = []api.Fact{off(h, api.OK, 0), off(d, api.OK, 0, 0)}

// and: these facts, and then others.
func and(first []api.Fact, more ...api.Fact) []api.Fact {
	return append(append([]api.Fact(nil), first...), more...)
}

// addsQuietly: a move whose facts are these, while both ends are fail-safe with nothing latched.
func (k *bench) addsQuietly(m api.Move, code api.Errno, sent int, facts ...api.Fact) {
	k.t.Helper()
	k.adds(m, code, sent, and(facts, silent...)...)
}

var (
	freshAtHost   = plainFact(api.FactFresh, h)
	freshAtDevice = plainFact(api.FactFresh, d)
)

// handshake: a connection comes up, each fact of it; frames 0 to 7.
func handshake(t *testing.T, p api.Param) *bench {
	t.Helper()
	k := with(t, p)
	k.addsQuietly(send(0), api.OK, 0)
	k.addsQuietly(give(0, d, 0), api.OK, 1, sessionFact(1))
	k.addsQuietly(give(0, h, 1), api.OK, nothing, freshAtHost)
	k.addsQuietly(give(0, h, 1), api.ErrStale, nothing)
	k.addsQuietly(send(0), api.OK, 2)
	k.addsQuietly(give(0, d, 2), api.OK, 3, freshAtDevice)
	// An echo that comes again is accepted, and not fresh.
	k.addsQuietly(give(0, d, 2), api.OK, 4)
	k.addsQuietly(give(0, h, 3), api.OK, nothing, freshAtHost)
	k.addsQuietly(give(0, h, 4), api.ErrStale, nothing)
	k.addsQuietly(send(0), api.OK, 5)
	k.addsQuietly(give(0, d, 5), api.OK, 6, freshAtDevice)
	// So is a start.
	k.addsQuietly(give(0, d, 5), api.OK, 7)
	k.addsQuietly(give(0, h, 6), api.OK, nothing, freshAtHost)
	return k
}

// flowing: likewise, and a value has gone each way; frames up to 9.
func flowing(t *testing.T, p api.Param) *bench {
	t.Helper()
	k := handshake(t, p)
	k.addsQuietly(write(0, h, false, 0xaa, 0xbb), api.OK, nothing)
	k.addsQuietly(write(0, d, false, 0xcc), api.OK, nothing)
	k.addsQuietly(write(0, d, false), api.ErrLength, nothing)
	k.addsQuietly(send(0), api.OK, 8, sentFact(h, 1, 1, 0xaa, 0xbb))
	k.adds(give(0, d, 8), api.OK, 9, freshAtDevice, takenFact(d, 1, 1, 0xaa, 0xbb), sentFact(d, 1, 1, 0xcc), off(h, api.OK, 0), on(d, 0xaa, 0xbb))
	k.adds(give(0, h, 9), api.OK, nothing, freshAtHost, takenFact(h, 1, 1, 0xcc), on(h, 0xcc), on(d, 0xaa, 0xbb))
	return k
}

// both: the outputs of a connection whose ends are on.
var both = []api.Fact{on(h, 0xcc), on(d, 0xaa, 0xbb)}

func TestFactsOfTheHandshake(t *testing.T) {
	handshake(t, seven).holds()
}

func TestFactsOfData(t *testing.T) {
	k := flowing(t, seven)
	// What comes again is stale: no fact but the outputs, whatever it is answered.
	k.adds(give(0, d, 8), api.ErrStale, 10, both...)
	k.adds(give(0, h, 9), api.ErrStale, nothing, both...)
	k.adds(give(0, h, 10), api.ErrStale, nothing, both...)
	// Nor has what is no frame for that end one.
	k.adds(give(0, d, 9), api.ErrKind, nothing, both...)
	k.adds(give(0, h, 8), api.ErrKind, nothing, both...)
	k.adds(garble(0, d, 8, 5, 9), api.ErrCheck, nothing, both...)
	k.adds(garble(0, h, 9, 5, 9), api.ErrCheck, nothing, both...)
	// Hold: what is taken doesn't come out.
	k.adds(write(0, h, true, 1, 2), api.OK, nothing, both...)
	k.adds(send(0), api.OK, 11, and([]api.Fact{sentFact(h, 1, 2, 1, 2)}, both...)...)
	k.adds(give(0, d, 11), api.OK, 12, freshAtDevice, takenFact(d, 1, 2, 1, 2), sentFact(d, 1, 2, 0xcc), on(h, 0xcc), off(d, api.OK, 0, 0))
	k.holds()
}

func TestFactsOfTicksAndAcks(t *testing.T) {
	k := flowing(t, seven)
	k.adds(ack(0, h), api.ErrRequest, nothing, both...)
	k.adds(tick(0, d, 0), api.OK, nothing, and([]api.Fact{tickFact(d, 0)}, both...)...)
	k.adds(tick(0, d, 9), api.OK, nothing, and([]api.Fact{tickFact(d, 9)}, both...)...)
	k.adds(tick(0, d, 1), api.OK, nothing, tickFact(d, 1), on(h, 0xcc), off(d, api.ErrWatchdog, 0, 0))
	// A further one is told too, though the watchdog has expired.
	k.adds(tick(0, d, api.MaxTicks), api.OK, nothing, tickFact(d, api.MaxTicks), on(h, 0xcc), off(d, api.ErrWatchdog, 0, 0))
	k.adds(ack(0, d), api.ErrRequest, nothing, on(h, 0xcc), off(d, api.ErrWatchdog, 0, 0))
	k.adds(send(0), api.OK, 10, sentFact(h, 1, 2, 0xaa, 0xbb), on(h, 0xcc), off(d, api.ErrWatchdog, 0, 0))
	k.adds(give(0, d, 10), api.OK, 11, freshAtDevice, takenFact(d, 1, 2, 0xaa, 0xbb), sentFact(d, 1, 2, 0xcc), on(h, 0xcc), off(d, api.ErrWatchdog, 0, 0))
	k.adds(ack(0, d), api.OK, nothing, plainFact(api.FactAck, d), on(h, 0xcc), off(d, api.OK, 0, 0))
	k.adds(ack(0, d), api.ErrRequest, nothing, on(h, 0xcc), off(d, api.OK, 0, 0))
	k.adds(tick(0, h, 10), api.OK, nothing, tickFact(h, 10), off(h, api.ErrWatchdog, 0), off(d, api.OK, 0, 0))
	k.adds(give(0, h, 11), api.OK, nothing, freshAtHost, takenFact(h, 1, 2, 0xcc), off(h, api.ErrWatchdog, 0), off(d, api.OK, 0, 0))
	k.adds(ack(0, h), api.OK, nothing, plainFact(api.FactAck, h), off(h, api.OK, 0), off(d, api.OK, 0, 0))
	k.holds()
}

// The last number: neither sent nor taken as a data unit, but fresh.
func TestFactsOfTheLast(t *testing.T) {
	few := seven
	few.Count = 2
	k := flowing(t, few)
	k.adds(send(0), api.OK, 10, off(h, api.ErrExhausted, 0), on(d, 0xaa, 0xbb))
	k.adds(send(0), api.ErrDone, nothing, off(h, api.ErrExhausted, 0), on(d, 0xaa, 0xbb))
	k.adds(give(0, d, 10), api.OK, 11, freshAtDevice, off(h, api.ErrExhausted, 0), off(d, api.ErrExhausted, 0, 0))
	if u := k.unitOf(11); u.Kind != api.DevLast || u.Number != 2 {
		t.Errorf("P8: the device's last frame is %+v", u)
	}
	exhausted := []api.Fact{off(h, api.ErrExhausted, 0), off(d, api.ErrExhausted, 0, 0)}
	k.adds(give(0, h, 11), api.ErrStale, nothing, exhausted...)
	// A host in its second life takes the old session up again, and so comes to its last unit.
	k.adds(reset(0, h, 0), api.OK, nothing, plainFact(api.FactReset, h), off(h, api.OK, 0), off(d, api.ErrExhausted, 0, 0))
	for _, frame := range []int{1, 3, 6} {
		k.adds(give(0, h, frame), api.OK, nothing, freshAtHost, off(h, api.OK, 0), off(d, api.ErrExhausted, 0, 0))
	}
	k.adds(give(0, h, 11), api.OK, nothing, and([]api.Fact{freshAtHost}, exhausted...)...)
	k.holds()
	// A wish that comes to the device then begins a session.
	k.adds(give(0, d, 0), api.OK, 12, and([]api.Fact{sessionFact(2)}, exhausted...)...)
	k.holds()
}

// The fourth wish gives the session up, and begins the next.
func TestFactsOfANewSession(t *testing.T) {
	k := flowing(t, seven)
	for i := range 3 {
		k.adds(give(0, d, 0), api.ErrStale, 10+i, both...)
	}
	k.adds(give(0, d, 0), api.OK, 13, sessionFact(2), on(h, 0xcc), off(d, api.ErrResync, 0, 0))
	k.holds()
	// Given up without a new one: no session is begun.
	k = flowing(t, seven)
	for i := range 3 {
		k.adds(give(0, d, 8), api.ErrStale, 10+i, both...)
	}
	k.adds(give(0, d, 8), api.ErrStale, 13, on(h, 0xcc), off(d, api.ErrResync, 0, 0))
	k.adds(give(0, d, 0), api.OK, 14, sessionFact(2), on(h, 0xcc), off(d, api.ErrResync, 0, 0))
	k.holds()
	// The host gives it up: what it sends then is a wish.
	k = flowing(t, seven)
	for n := range uint32(4) {
		k.adds(send(0), api.OK, 10+int(n), and([]api.Fact{sentFact(h, 1, 2+n, 0xaa, 0xbb)}, both...)...)
	}
	k.adds(send(0), api.OK, 14, off(h, api.ErrResync, 0), on(d, 0xaa, 0xbb))
	k.holds()
}

// A device that has no session left: it is told nothing of one.
func TestFactsOfNoSession(t *testing.T) {
	k := of(t, netOf(1, seven))
	k.addsQuietly(send(0), api.OK, 0)
	k.addsQuietly(give(0, d, 0), api.OK, 1, sessionFact(1))
	k.addsQuietly(reset(0, d, 0), api.OK, nothing, plainFact(api.FactReset, d))
	k.adds(give(0, d, 0), api.ErrExhausted, 2, off(h, api.OK, 0), off(d, api.ErrExhausted, 0, 0))
	k.adds(give(0, d, 0), api.ErrExhausted, 3, off(h, api.OK, 0), off(d, api.ErrExhausted, 0, 0))
	k.holds()
}

// The power goes by a delivery, or by a reset: of each one FactReset, and none while the device stays Down.
func TestFactsOfACut(t *testing.T) {
	k := flowing(t, seven)
	k.adds(cut(0, 5), api.OK, nothing, both...)
	for i := range 3 {
		k.adds(give(0, d, 0), api.ErrStale, 10+i, both...)
	}
	down := []api.Fact{on(h, 0xcc), off(d, api.OK, 0, 0)}
	k.adds(give(0, d, 0), api.ErrCut, nothing, and([]api.Fact{plainFact(api.FactReset, d)}, down...)...)
	for _, m := range []api.Move{give(0, d, 0), give(0, d, 8), garble(0, d, 0, 1, 1), tick(0, d, 3), tick(0, d, 0), ack(0, d), write(0, d, false, 1)} {
		k.adds(m, api.ErrCut, nothing, down...)
	}
	// The opening mends the slot that was cut: it writes, and is cut itself.
	k.adds(reset(0, d, 3), api.ErrCut, nothing, and([]api.Fact{plainFact(api.FactReset, d)}, down...)...)
	k.adds(reset(0, d, 1), api.ErrCut, nothing, and([]api.Fact{plainFact(api.FactReset, d)}, down...)...)
	k.adds(reset(0, d, 0), api.OK, nothing, and([]api.Fact{plainFact(api.FactReset, d)}, down...)...)
	k.adds(give(0, d, 0), api.OK, 13, and([]api.Fact{sessionFact(2)}, down...)...)
	k.holds()
}

// Each move's facts are of its own connection, and end with the outputs of its host and its device.
func TestFactsOfManyConnections(t *testing.T) {
	k := with(t, sets[:]...)
	for round := range 4 {
		for conn := range sets {
			for _, m := range []api.Move{send(conn), give(conn, d, k.w.Frames()), give(conn, h, k.w.Frames()+1), tick(conn, h, 0), reset((conn+round)%8, d, 0)} {
				ahead := len(k.w.Facts())
				row, e := k.play(m)
				if e != api.OK {
					t.Fatalf("P17.2: Play(%+v): %d", m, e)
				}
				facts := k.w.Facts()[ahead:]
				for i, f := range facts {
					if f.Conn != m.Conn || (f.Kind == api.FactOut) != (i >= len(facts)-2) {
						t.Fatalf("P17.2: Play(%+v) adds %+v", m, facts)
					}
				}
				last := []api.Fact{
					{Kind: api.FactOut, Conn: m.Conn, Side: h, On: row.Host.On, Code: row.Host.Latched, Data: row.Host.Out},
					{Kind: api.FactOut, Conn: m.Conn, Side: d, On: row.Dev.On, Code: row.Dev.Latched, Data: row.Dev.Out},
				}
				if len(facts) < 2 || !sameFact(facts[len(facts)-2], last[0]) || !sameFact(facts[len(facts)-1], last[1]) {
					t.Fatalf("P17.2: Play(%+v) adds %+v behind which is %+v", m, facts, row)
				}
			}
		}
	}
	k.holds()
}
