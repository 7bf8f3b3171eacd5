package fair_test

import (
	"testing"

	"parapet/api"
	"parapet/fair"
	"parapet/world"
)

var (
	yes = answer{ok: true}
	no  = answer{}
)

// wrong: an error, and nothing beside it.
func wrong(e api.Errno) answer { return answer{e: e} }

func TestBound(t *testing.T) {
	if got := fair.Bound(); got != 7 {
		t.Errorf("P19.1: Bound: %d, not 7", got)
	}
}

// A handshake, and what flows behind it: each exchange is three moves.
func TestExchangesOfANewNet(t *testing.T) {
	b := with(t, seven)
	for range 20 {
		b.comesTo(exchange(0), yes, b.whole(0)...)
	}
	if a, z := b.see(0, h), b.see(0, d); a.Number != 17 || z.Number != 17 || a.Session != 1 || !a.On || !z.On {
		t.Errorf("P19.2: behind 20 exchanges: %+v, %+v", a, z)
	}
	b.goesOn(0)
}

// Of several connections only the one that is meant moves.
func TestExchangesOfMany(t *testing.T) {
	var sets []api.Param
	for i := range api.MaxConns {
		p := seven
		p.Code += uint32(i)
		sets = append(sets, p)
	}
	b := with(t, sets...)
	for round := range 5 {
		for i := range sets {
			k := (3*i + round) % len(sets)
			b.comesTo(exchange(k), yes, b.whole(k)...)
		}
	}
}

func TestExchangeOfWhatIsNot(t *testing.T) {
	for _, k := range []int{0, 1, -1, top, least} {
		for _, w := range []*world.World{nil, {}} {
			if got := exchange(k).fair(w); got != wrong(api.ErrNil) {
				t.Errorf("P19.2, R7: Exchange(nil, %d): %+v", k, got)
			}
		}
	}
	b := talking(t, seven, api.Param{Code: 9, Out: 1, In: 1, Watch: 3, Count: 20})
	for _, k := range []int{-1, 2, top, least} {
		b.comesTo(exchange(k), wrong(api.ErrConn))
	}
	b.comesTo(exchange(1), yes, b.whole(1)...)
	// Where no move is left, Play says that ahead of all else.
	b.fill(0)
	b.comesTo(exchange(2), wrong(api.ErrFull))
}

// The last number goes out, and comes; the answer to it comes to a host that is Done. From then on nothing is sent.
func TestExchangeOfAHostThatIsDone(t *testing.T) {
	b := talking(t, counting(2))
	b.comesTo(exchange(0), no, b.whole(0)...)
	if a, z := b.see(0, h), b.see(0, d); a.State != api.Done || z.State != api.Done {
		t.Fatalf("P8: %+v, %+v", a, z)
	}
	for range 5 {
		b.comesTo(exchange(0), no, send(0))
	}
}

// Nothing is sent: nor is a device acknowledged that asks.
func TestNothingSentNothingAcknowledged(t *testing.T) {
	b := talking(t, counting(3))
	b.play(tick(0, d, seven.Watch), send(0), give(0, d, 8), send(0))
	if a, z := b.see(0, h), b.see(0, d); a.State != api.Done || !z.Request {
		t.Fatalf("P8, P13.3: %+v, %+v", a, z)
	}
	b.comesTo(exchange(0), no, send(0))
	if !b.see(0, d).Request {
		t.Error("P19.2: an acknowledgement behind a sending that was none")
	}
}

// No answer: the device is Down, also by this very frame, or has another code; the host isn't acknowledged then, though it asks.
func TestNoAnswer(t *testing.T) {
	b := asking(t, h)
	b.play(b.whole(0)...)
	b.goesDown()
	for range 3 {
		b.comesTo(exchange(0), no, send(0), give(0, d, b.x.Frames()))
		if !b.see(0, h).Request {
			t.Fatalf("P19.2: an acknowledgement behind no answer: %+v", b.see(0, h))
		}
	}
	// The fourth sending in vain is no wish yet, the fifth is one.
	b.comesTo(exchange(0), no, send(0), give(0, d, b.x.Frames()))
	b.comesTo(exchange(0), no, send(0), give(0, d, b.x.Frames()))
	b.play(reset(0, d, 0))
	b.says(settle(0, 7), answer{n: 3, ok: true})

	b = with(t, seven)
	b.play(cut(0, 5))
	b.comesTo(exchange(0), no, send(0), give(0, d, 0))
	if got := b.see(0, d).State; got != api.Down {
		t.Errorf("P13.3: the device is %d", got)
	}

	n := netOf(9, seven)
	n.Devices[0].Code = 8
	b = of(t, n)
	for i := range 6 {
		b.comesTo(exchange(0), no, send(0), give(0, d, i))
	}
}

// An answer that the host refuses: of a device that is Done, that finds the unit odd, or that goes by another set.
func TestRefusedAnswer(t *testing.T) {
	b := talking(t, counting(2))
	b.play(send(0), give(0, d, 8))
	b.secondLife()
	if a, z := b.see(0, h), b.see(0, d); a.State != api.Running || z.State != api.Done {
		t.Fatalf("P14.3: %+v, %+v", a, z)
	}
	b.comesTo(exchange(0), no, b.whole(0)...)

	b = talking(t, seven)
	b.play(reset(0, h, 0))
	for range 3 {
		b.comesTo(exchange(0), no, b.whole(0)...)
	}
	b.comesTo(exchange(0), yes, b.whole(0)...)

	n := netOf(9, seven)
	n.Devices[0].Watch++
	b = of(t, n)
	for range 10 {
		b.comesTo(exchange(0), no, b.whole(0)...)
	}
}

func TestRequests(t *testing.T) {
	for _, sides := range [][]api.Side{{h}, {d}, {h, d}, {d, h}} {
		b := asking(t, sides...)
		moves := b.whole(0)
		if sides[0] == h || len(sides) > 1 {
			moves = append(moves, ack(0, h))
		}
		if sides[0] == d || len(sides) > 1 {
			moves = append(moves, ack(0, d))
		}
		b.comesTo(exchange(0), yes, moves...)
		if a, z := b.see(0, h), b.see(0, d); a.Latched != api.OK || z.Latched != api.OK {
			t.Errorf("P19.2: the faults of %v aren't acknowledged: %+v, %+v", sides, a, z)
		}
		b.comesTo(exchange(0), yes, b.whole(0)...)
		b.goesOn(0)
	}
}

// The operator acknowledges also where the host refuses the answer, and what is asked since long ago.
func TestRequestsBehindARefusal(t *testing.T) {
	b := asking(t, d)
	b.play(send(0), give(0, d, 8), reset(0, h, 0))
	b.comesTo(exchange(0), no, append(b.whole(0), ack(0, d))...)
	b.comesTo(exchange(0), no, b.whole(0)...)

	b = asking(t, h, d)
	b.play(b.whole(0)...)
	b.secondLife()
	b.play(tick(0, h, seven.Watch), give(0, h, firstUp))
	if a, z := b.see(0, h), b.see(0, d); !a.Request || !z.Request {
		t.Fatalf("P14.3: %+v, %+v", a, z)
	}
	b.comesTo(exchange(0), no, append(b.whole(0), ack(0, h), ack(0, d))...)
}

// A fault is latched, but nothing fresh has come, or the end isn't Running: it doesn't ask, and isn't acknowledged.
func TestLatchedWithoutRequest(t *testing.T) {
	b := with(t, seven)
	b.play(tick(0, h, 10), tick(0, d, 10))
	b.comesTo(exchange(0), yes, b.whole(0)...)
	b.comesTo(exchange(0), yes, b.whole(0)...)
	b.comesTo(exchange(0), yes, append(b.whole(0), ack(0, h), ack(0, d))...)
}

// At the limit of moves: the error comes at each of the moves of an exchange, and what was played stays.
func TestExchangeAtTheLimit(t *testing.T) {
	t.Parallel()
	for left := range 6 {
		for _, sides := range [][]api.Side{nil, {h}, {d}, {h, d}} {
			b := asking(t, sides...)
			b.fill(left)
			moves := b.whole(0)
			for _, s := range sides {
				moves = append(moves, ack(0, s))
			}
			if left < len(moves) {
				b.comesTo(exchange(0), wrong(api.ErrFull), moves[:left]...)
			} else {
				b.comesTo(exchange(0), yes, moves...)
			}
		}
	}
	// Where fewer moves are enough, there is no error.
	b := talking(t, counting(2))
	b.play(send(0))
	b.fill(1)
	b.comesTo(exchange(0), no, send(0))
	b.comesTo(exchange(0), wrong(api.ErrFull))
	b = talking(t, seven)
	b.goesDown()
	b.fill(3)
	b.comesTo(exchange(0), no, send(0), give(0, d, b.x.Frames()))
	b.comesTo(exchange(0), wrong(api.ErrFull), send(0))
}
