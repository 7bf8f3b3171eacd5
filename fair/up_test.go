package fair_test

import (
	"testing"

	"parapet/api"
	"parapet/fair"
	"parapet/world"
)

// isUp: what Up says, twice: it changes nothing.
func (b *bench) isUp(k int, want bool) {
	b.t.Helper()
	for range 2 {
		if got := fair.Up(b.w, k); got != want {
			b.t.Fatalf("P19.3: Up(%d): %v, not %v", k, got, want)
		}
	}
	b.near("P19.3: Up")
}

// A handshake, move by move: it is up behind the last of its nine.
func TestUpOfANewNet(t *testing.T) {
	b := with(t, seven)
	for range 3 {
		for _, m := range b.whole(0) {
			b.isUp(0, false)
			b.play(m)
		}
	}
	b.isUp(0, true)
	// Data may be lost for a while, and either end may be held: it is up.
	b.play(send(0), hold(0, h, 1, 2), hold(0, d, 3))
	b.isUp(0, true)
	b.play(b.whole(0)...)
	b.isUp(0, true)
	b.alike("P19.3: Up")
}

// toState: ways to bring the device, which is Done in its first session, to each state; hosts behind it are in that session.
func toState() map[api.State]func(b *bench) {
	again := func(exchanges int) func(b *bench) {
		return func(b *bench) {
			b.play(reset(0, h, 0), reset(0, d, 0))
			for range exchanges {
				b.says(exchange(0), yes)
			}
		}
	}
	return map[api.State]func(b *bench){
		api.Idle:    func(b *bench) { b.play(reset(0, d, 0)) },
		api.Offered: func(b *bench) { b.play(give(0, d, firstWish)) },
		api.Agreed:  again(2),
		api.Running: again(3),
		api.Done:    func(*bench) {},
		api.Down:    func(b *bench) { b.goesDown() },
	}
}

// The host in every state of the first session, the device in every one, of another session where it has one.
func TestUpInEveryState(t *testing.T) {
	replayed := map[api.State][]int{
		api.Idle:    nil,
		api.Offered: {firstOffer},
		api.Agreed:  {firstOffer, firstOK},
		api.Running: {firstOffer, firstOK, firstBegun},
		api.Done:    {firstOffer, firstOK, firstBegun, 9},
	}
	for atDevice, bring := range toState() {
		for atHost, frames := range replayed {
			b := talking(t, counting(2))
			b.says(exchange(0), no)
			bring(b)
			b.play(reset(0, h, 0))
			for _, frame := range frames {
				b.play(give(0, h, frame))
			}
			if got, dev := b.see(0, h), b.see(0, d); got.State != atHost || dev.State != atDevice {
				t.Fatalf("too little is tried: %+v, %+v, not %d, %d", got, dev, atHost, atDevice)
			}
			b.isUp(0, false)
			b.asks(settle(0, 20))
		}
	}
}

// Both are Running, and nothing is latched, but the sessions differ.
func TestUpInTwoSessions(t *testing.T) {
	b := talking(t, seven)
	b.play(reset(0, h, 0))
	b.says(settle(0, 7), answer{n: 6, ok: true})
	b.isUp(0, true)
	b.secondLife()
	a, z := b.see(0, h), b.see(0, d)
	if a.State != api.Running || z.State != api.Running || a.Session != 1 || z.Session != 2 || a.Latched != 0 || z.Latched != 0 {
		t.Fatalf("too little is tried: %+v, %+v", a, z)
	}
	b.isUp(0, false)
	b.asks(settle(0, 7))
}

// A fault at either end, or at both.
func TestUpWithAFault(t *testing.T) {
	for _, sides := range [][]api.Side{{h}, {d}, {h, d}} {
		b := talking(t, seven)
		for _, s := range sides {
			b.play(tick(0, s, seven.Watch-1))
			b.isUp(0, true)
		}
		for _, s := range sides {
			b.play(tick(0, s, 1))
			b.isUp(0, false)
		}
		// Fresh units alone don't end it.
		b.play(b.whole(0)...)
		for _, s := range sides {
			b.isUp(0, false)
			b.play(ack(0, s))
		}
		b.isUp(0, true)
	}
}

func TestUpOfWhatIsNot(t *testing.T) {
	for _, k := range []int{0, 1, -1, top, least} {
		if fair.Up(nil, k) || fair.Up(&world.World{}, k) {
			t.Errorf("P19.3: Up(nil, %d)", k)
		}
	}
	b := talking(t, seven, api.Param{Code: 9, Out: 1, In: 1, Watch: 3, Count: 20})
	b.isUp(0, true)
	for _, k := range []int{1, 2, -1, top, least} {
		b.isUp(k, false)
	}
	b.up(1)
	b.isUp(1, true)
	// Also where no move is left.
	b.fill(0)
	b.isUp(0, true)
	b.isUp(1, true)
	b.isUp(2, false)
}
