package fair_test

import (
	"testing"

	"parapet/api"
	"parapet/fair"
)

// trueFrom: of all talks the first true one is this, counted from 1 on; and each behind it is true, too.
func (b *bench) trueFrom(first int) {
	b.t.Helper()
	for turn := 1; turn < first+10; turn++ {
		b.says(talk(0, []byte{byte(turn), 1}, []byte{byte(turn)}), answer{ok: turn >= first})
	}
}

// Up alone isn't enough: what looks well may end, and comes up again within the bound.
func TestUpIsNotEnough(t *testing.T) {
	// A host that has waited in vain.
	b := talking(t, seven)
	for range api.ResyncMax {
		b.play(send(0))
	}
	b.says(settle(0, 7), answer{ok: true})
	b.trueFrom(7)
	// One that has waited a time less.
	b = talking(t, seven)
	for range api.ResyncMax - 1 {
		b.play(send(0))
	}
	b.trueFrom(1)
	// A host's second life in the old session: its numbers are below what the device has accepted.
	b = talking(t, seven)
	for range 9 {
		b.says(talk(0, down, up), yes)
	}
	b.secondLife()
	b.says(settle(0, 7), answer{ok: true})
	b.trueFrom(8)
	// They come above it just in time.
	b = talking(t, seven)
	b.says(talk(0, down, up), yes)
	b.says(talk(0, down, up), yes)
	b.secondLife()
	b.trueFrom(4)
	// A device that has counted an odd unit doesn't wait for that.
	b = talking(t, seven)
	b.says(talk(0, down, up), yes)
	b.says(talk(0, down, up), yes)
	b.secondLife()
	b.play(give(0, d, firstWish))
	b.trueFrom(8)
}

// brought: what a connection may come to behind a talk, in at most ten moves.
func brought() map[string]func(b *bench) {
	return map[string]func(b *bench){
		"nothing":       func(*bench) {},
		"host reset":    func(b *bench) { b.play(reset(0, h, 0)) },
		"device reset":  func(b *bench) { b.play(reset(0, d, 0)) },
		"both reset":    func(b *bench) { b.play(reset(0, h, 0), reset(0, d, 0)) },
		"host late":     func(b *bench) { b.play(tick(0, h, seven.Watch)) },
		"device late":   func(b *bench) { b.play(tick(0, d, seven.Watch)) },
		"both late":     func(b *bench) { b.play(tick(0, h, seven.Watch), tick(0, d, seven.Watch)) },
		"in vain":       func(b *bench) { b.play(send(0), send(0), send(0), send(0)) },
		"old wishes":    func(b *bench) { b.play(give(0, d, 0), give(0, d, 0), give(0, d, 0)) },
		"a new session": func(b *bench) { b.play(give(0, d, 0), give(0, d, 0), give(0, d, 0), give(0, d, 0)) },
		"second life":   func(b *bench) { b.secondLife() },
		"cut": func(b *bench) {
			b.goesDown()
			b.play(reset(0, d, 0))
		},
	}
}

// narrow: a net in which the premises just hold behind what brings a connection there: two session numbers are left, and 2 * Bound numbers and one.
func narrow(t *testing.T, bring func(b *bench)) api.Net {
	t.Helper()
	const sessions = 99
	b := of(t, netOf(sessions, seven))
	b.up(0)
	b.says(talk(0, down, up), yes)
	bring(b)
	return netOf(sessions-b.left(0)+2, counting(b.see(0, h).Sent+2*uint32(fair.Bound())+1))
}

// So are 10 * Bound moves.
func TestAtTheEdgeOfThePremises(t *testing.T) {
	t.Parallel()
	for name, bring := range brought() {
		n := narrow(t, bring)
		begin := func() *bench {
			b := of(t, n)
			b.up(0)
			b.says(talk(0, down, up), yes)
			b.fill(10*fair.Bound() + 10)
			bring(b)
			b.fill(10 * fair.Bound())
			if b.left(0) != 2 || n.Hosts[0].Count != b.see(0, h).Sent+15 || b.w.Moves() != api.MaxMoves-70 {
				t.Fatalf("too little is tried: %s: %d sessions, %d moves left, %+v", name, b.left(0), api.MaxMoves-b.w.Moves(), b.see(0, h))
			}
			return b
		}
		b := begin()
		if got := b.asks(settle(0, fair.Bound())); !got.ok || got.e != api.OK {
			t.Errorf("P19.6: %s: Settle: %+v: %+v, %+v", name, got, b.see(0, h), b.see(0, d))
		}
		b = begin()
		first := 0
		for turn := 1; turn <= fair.Bound()+1; turn++ {
			got := b.asks(talk(0, []byte{byte(turn), 1}, []byte{byte(turn)}))
			if got.ok && first == 0 {
				first = turn
			}
			if got.ok != (first > 0) || got.e != api.OK {
				t.Errorf("P19.6: %s: talk %d: %+v, and the first true one was %d", name, turn, got, first)
			}
		}
		if first == 0 {
			t.Errorf("P19.6: %s: no talk: %+v, %+v", name, b.see(0, h), b.see(0, d))
		}
	}
}

// Talks are true as long as numbers are left: the last number carries no value.
func TestTalksToTheLastNumber(t *testing.T) {
	for _, count := range []uint32{2, 3, 15, 40} {
		b := with(t, counting(count))
		b.up(0)
		for n := uint32(1); n < count; n++ {
			b.says(talk(0, []byte{byte(n), 1}, []byte{byte(n)}), yes)
			// Also with all ticks but one that the watch has.
			b.play(tick(0, h, seven.Watch-1), tick(0, d, seven.Watch-1))
		}
		b.comesTo(talk(0, down, up), no, b.talked(0, down, up)...)
		b.comesTo(talk(0, down, up), no, b.talked(0, down, up)[:3]...)
		b.says(settle(0, 7), answer{n: 7})
	}
}

// And as long as moves are left.
func TestTalksToTheLastMove(t *testing.T) {
	for left := range 5 {
		b := with(t, counting(2000))
		b.up(0)
		b.fill(20 + left)
		for range 4 {
			b.comesTo(talk(0, down, up), yes, b.talked(0, down, up)...)
		}
		b.comesTo(talk(0, down, up), wrong(api.ErrFull), b.talked(0, down, up)[:left]...)
	}
}

// One tick more than may be between two deliveries: the fault is latched, and ends with the operator.
func TestTooManyTicks(t *testing.T) {
	for _, watch := range []int{1, 2, 10, api.MaxTicks} {
		for _, s := range []api.Side{h, d} {
			p := seven
			p.Watch = watch
			b := with(t, p)
			b.up(0)
			for range 3 {
				b.says(talk(0, down, up), yes)
				b.play(tick(0, s, watch-1))
				b.says(talk(0, down, up), yes)
				b.play(tick(0, s, watch-1), tick(0, s, 1))
				if got := b.see(0, s); got.On || got.Latched != api.ErrWatchdog {
					t.Fatalf("P5: behind %d ticks: %+v", watch, got)
				}
				b.comesTo(talk(0, down, up), no, append(b.talked(0, down, up), ack(0, s))...)
			}
		}
	}
}

// A fault stays where nothing fresh comes, however many exchanges there are.
func TestFaultStaysWithoutFresh(t *testing.T) {
	b := talking(t, seven)
	for range 9 {
		b.says(talk(0, down, up), yes)
	}
	b.secondLife()
	b.play(tick(0, d, seven.Watch))
	for range api.ResyncMax {
		b.comesTo(exchange(0), no, b.whole(0)...)
		if got := b.see(0, d); got.On || got.Latched != api.ErrWatchdog {
			t.Fatalf("P5: nothing fresh has come: %+v", got)
		}
	}
	b.says(settle(0, 7), answer{n: 3, ok: true})
}

// Where a premise doesn't hold.
func TestWithoutAPremise(t *testing.T) {
	// The memory is armed: the device goes Down, and stays so.
	b := talking(t, seven)
	b.play(reset(0, h, 0), cut(0, 5))
	b.says(settle(0, 7), answer{n: 7})
	if got := b.see(0, d).State; got != api.Down {
		t.Errorf("P13.3: the device is %d", got)
	}
	b.says(talk(0, down, up), no)
	// It is armed, but no session is begun any more: nothing goes.
	b = talking(t, seven)
	b.play(cut(0, 0))
	b.trueFrom(1)
	// One session number is left: that is enough here; and none.
	b = of(t, netOf(2, seven))
	b.up(0)
	b.play(reset(0, d, 0))
	b.says(settle(0, 7), answer{n: 7, ok: true})
	b.play(reset(0, d, 0))
	b.says(settle(0, 30), answer{n: 30})
	// The host is Done, the device is not.
	b = talking(t, counting(2))
	b.play(send(0))
	b.says(settle(0, 7), answer{n: 7})
	b.says(talk(0, down, up), no)
	// Too few numbers: the last one comes ahead of all that would do.
	b = talking(t, counting(4))
	b.says(talk(0, down, up), yes)
	b.says(talk(0, down, up), yes)
	b.secondLife()
	b.play(give(0, d, firstWish))
	b.says(settle(0, 7), answer{ok: true})
	for range 9 {
		b.says(talk(0, down, up), no)
	}
}
