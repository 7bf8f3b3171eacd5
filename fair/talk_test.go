package fair_test

import (
	"testing"

	"parapet/api"
	"parapet/world"
)

var (
	down = []byte{0xaa, 0xbb}
	up   = []byte{0xcc}
)

// talked: the moves of a talk in which nobody asks for an acknowledgement.
func (b *bench) talked(k int, down, up []byte) []api.Move {
	return append([]api.Move{write(k, h, down...), write(k, d, up...)}, b.whole(k)...)
}

// A talk is true where each value is the other end's output: behind a handshake.
func TestTalksOfANewNet(t *testing.T) {
	b := with(t, seven)
	for range 3 {
		b.comesTo(talk(0, down, up), no, b.talked(0, down, up)...)
	}
	for i := range byte(40) {
		down, up := []byte{i, 2 * i}, []byte{3 * i}
		b.comesTo(talk(0, down, up), yes, b.talked(0, down, up)...)
		b.comesTo(exchange(0), yes, b.whole(0)...)
	}
	b.goesOn(0)
}

// Values of all lengths that there are; all bytes 0 are a process value too.
func TestTalksOfAllLengths(t *testing.T) {
	for out := 1; out <= api.MaxData; out++ {
		for in := 1; in <= api.MaxData; in++ {
			b := with(t, api.Param{Code: 5, Out: out, In: in, Watch: 1, Count: 9})
			b.up(0)
			for _, first := range []byte{1, 0, 0xff} {
				down, up := make([]byte, out), make([]byte, in)
				down[out-1], up[0] = first, first
				b.says(talk(0, down, up), yes)
			}
		}
	}
}

// Bytes 0 that are written aren't the fail-safe ones, though they look alike: those don't make a talk true.
func TestTalkOfZeros(t *testing.T) {
	zeros, zero := []byte{0, 0}, []byte{0}
	b := with(t, seven)
	for range 3 {
		b.comesTo(talk(0, zeros, zero), no, b.talked(0, zeros, zero)...)
	}
	b.comesTo(talk(0, zeros, zero), yes, b.talked(0, zeros, zero)...)
	for _, s := range []api.Side{h, d} {
		b.play(tick(0, s, seven.Watch))
		b.comesTo(talk(0, zeros, zero), no, append(b.talked(0, zeros, zero), ack(0, s))...)
		b.comesTo(talk(0, zeros, zero), yes, b.talked(0, zeros, zero)...)
	}
}

// A value of another length is refused in its row: nothing is played behind it.
func TestTalkOfWrongLengths(t *testing.T) {
	list := make([]byte, 20)
	for n := range 20 {
		b := talking(t, seven)
		if n != 2 {
			b.comesTo(talk(0, list[:n], up), no, write(0, h, list[:n]...))
			b.comesTo(talk(0, list[:n], list[:n]), no, write(0, h, list[:n]...))
			b.comesTo(talk(0, list[:n], nil), no, write(0, h, list[:n]...))
		}
		if n != 1 {
			b.comesTo(talk(0, down, list[:n]), no, write(0, h, down...), write(0, d, list[:n]...))
		}
		if a, z := b.see(0, h), b.see(0, d); !a.On || !z.On || a.Number != 1 {
			t.Fatalf("P19.5: behind refused values: %+v, %+v", a, z)
		}
		// What was written ahead of the refusal stays.
		b.comesTo(talk(0, []byte{1, 2}, nil), no, write(0, h, 1, 2), write(0, d))
		b.comesTo(exchange(0), yes, b.whole(0)...)
		if got := b.see(0, d).Out; got[0] != 1 || got[1] != 2 {
			t.Errorf("P19.5: the host's application wrote 01 02, and the device has % x", got)
		}
		b.comesTo(talk(0, down, up), yes, b.talked(0, down, up)...)
	}
}

// nil and an empty list are the same.
func TestTalkOfNothing(t *testing.T) {
	b := talking(t, seven)
	for _, v := range [][]byte{nil, {}} {
		b.comesTo(talk(0, v, up), no, write(0, h))
		b.comesTo(talk(0, down, v), no, write(0, h, down...), write(0, d))
	}
}

// Applications that hold: a talk writes without it.
func TestTalkEndsAHold(t *testing.T) {
	for _, sides := range [][]api.Side{{h}, {d}, {h, d}} {
		b := talking(t, seven)
		for _, s := range sides {
			if s == h {
				b.play(hold(0, h, down...))
			} else {
				b.play(hold(0, d, up...))
			}
		}
		b.says(exchange(0), yes)
		if a, z := b.see(0, h), b.see(0, d); a.On && z.On {
			t.Fatalf("too little is tried: %+v, %+v", a, z)
		}
		b.comesTo(talk(0, down, up), yes, b.talked(0, down, up)...)
		b.comesTo(exchange(0), yes, b.whole(0)...)
		if a, z := b.see(0, h), b.see(0, d); !a.On || !z.On {
			t.Fatalf("P19.5: a talk with a hold: %+v, %+v", a, z)
		}
	}
}

// A talk that ends a fault: the outputs are on only behind the next.
func TestTalkWithAFault(t *testing.T) {
	for _, sides := range [][]api.Side{{h}, {d}, {h, d}} {
		b := asking(t, sides...)
		moves := b.talked(0, down, up)
		for _, s := range sides {
			moves = append(moves, ack(0, s))
		}
		b.comesTo(talk(0, down, up), no, moves...)
		b.isUp(0, true)
		b.comesTo(talk(0, down, up), yes, b.talked(0, down, up)...)
	}
}

// Outputs that are on with other values, and with the very same: the exchange brought nothing, so the talk didn't either.
func TestTalkBesideOldOutputs(t *testing.T) {
	for _, v := range [][2][]byte{{{1, 2}, {3}}, {down, {3}}, {{1, 2}, up}, {down, up}} {
		b := talking(t, seven)
		b.secondLife()
		b.play(give(0, h, firstUp))
		b.isUp(0, true)
		b.comesTo(talk(0, v[0], v[1]), no, b.talked(0, v[0], v[1])...)
		a, z := b.see(0, h), b.see(0, d)
		if !a.On || !z.On || a.Out[0] != 0xcc || z.Out[0] != 0xaa || z.Out[1] != 0xbb {
			t.Fatalf("too little is tried: %+v, %+v", a, z)
		}
		// The host's next number is above what the device has accepted.
		b.comesTo(talk(0, v[0], v[1]), yes, b.talked(0, v[0], v[1])...)
	}
}

// One output alone is what was written.
func TestTalkThatComesToOneEnd(t *testing.T) {
	b := with(t, seven)
	b.up(0)
	b.play(tick(0, h, seven.Watch))
	b.comesTo(talk(0, down, up), no, append(b.talked(0, down, up), ack(0, h))...)
	if a, z := b.see(0, h), b.see(0, d); a.On || !z.On {
		t.Fatalf("too little is tried: %+v, %+v", a, z)
	}
	b = with(t, seven)
	b.up(0)
	b.play(tick(0, d, seven.Watch))
	b.comesTo(talk(0, down, up), no, append(b.talked(0, down, up), ack(0, d))...)
	if a, z := b.see(0, h), b.see(0, d); !a.On || z.On {
		t.Fatalf("too little is tried: %+v, %+v", a, z)
	}
}

// Ends that say nothing any more.
func TestTalkInVain(t *testing.T) {
	// A device that is Down takes no value.
	b := talking(t, seven)
	b.goesDown()
	b.comesTo(talk(0, down, up), no, write(0, h, down...), write(0, d, up...))
	// A host that is Done takes one, and sends nothing.
	b = talking(t, counting(2))
	b.play(send(0))
	b.comesTo(talk(0, down, up), no, write(0, h, down...), write(0, d, up...), send(0))
	// The last number carries no value.
	b = talking(t, counting(2))
	b.comesTo(talk(0, down, up), no, b.talked(0, down, up)...)
	// A device with another code doesn't answer.
	n := netOf(9, seven)
	n.Devices[0].Code = 8
	b = of(t, n)
	b.comesTo(talk(0, down, up), no, b.talked(0, down, up)[:4]...)
	// A device that is Done answers nothing that the host takes.
	b = talking(t, counting(2))
	b.play(send(0), give(0, d, 8))
	b.secondLife()
	b.comesTo(talk(0, down, up), no, b.talked(0, down, up)...)
}

func TestTalkOfWhatIsNot(t *testing.T) {
	for _, k := range []int{0, 1, -1, top, least} {
		for _, w := range []*world.World{nil, {}} {
			if got := talk(k, down, up).fair(w); got != wrong(api.ErrNil) {
				t.Errorf("P19.5, R7: Talk(nil, %d): %+v", k, got)
			}
			if got := talk(k, nil, nil).fair(w); got != wrong(api.ErrNil) {
				t.Errorf("P19.5, R7: Talk(nil, %d) of nothing: %+v", k, got)
			}
		}
	}
	b := talking(t, seven, api.Param{Code: 9, Out: 2, In: 1, Watch: 3, Count: 20})
	for _, k := range []int{-1, 2, top, least} {
		b.comesTo(talk(k, down, up), wrong(api.ErrConn))
		b.comesTo(talk(k, nil, nil), wrong(api.ErrConn))
	}
	b.comesTo(talk(1, down, up), no, b.talked(1, down, up)...)
	b.fill(0)
	b.comesTo(talk(2, down, up), wrong(api.ErrFull))
	b.comesTo(talk(0, nil, nil), wrong(api.ErrFull))
}

// At the limit of moves: the error comes at each of the moves of a talk.
func TestTalkAtTheLimit(t *testing.T) {
	t.Parallel()
	for left := range 8 {
		for _, sides := range [][]api.Side{nil, {h}, {d}, {h, d}} {
			b := asking(t, sides...)
			b.fill(left)
			down, up := []byte{1, 2}, []byte{3}
			moves := b.talked(0, down, up)
			for _, s := range sides {
				moves = append(moves, ack(0, s))
			}
			if left < len(moves) {
				b.comesTo(talk(0, down, up), wrong(api.ErrFull), moves[:left]...)
			} else {
				b.comesTo(talk(0, down, up), answer{ok: len(sides) == 0}, moves...)
			}
		}
	}
	// A refusal comes ahead of an error of a move that isn't wanted any more.
	b := talking(t, seven)
	b.fill(2)
	b.comesTo(talk(0, nil, up), no, write(0, h))
	b.comesTo(talk(0, down, nil), wrong(api.ErrFull), write(0, h, down...))
}
