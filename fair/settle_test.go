package fair_test

import (
	"testing"

	"parapet/api"
	"parapet/fair"
	"parapet/world"
)

// The chapter's examples.
func TestExamples(t *testing.T) {
	b := with(t, seven)
	b.says(settle(0, 7), answer{n: 3, ok: true})
	b.says(settle(0, 7), answer{n: 0, ok: true})
	b.says(talk(0, []byte{0xaa, 0xbb}, []byte{0xcc}), yes)
	b.play(reset(0, h, 0))
	b.says(settle(0, 0), no)
	b.says(settle(0, 7), answer{n: 6, ok: true})

	b = talking(t, seven)
	b.play(reset(0, d, 0))
	b.says(settle(0, 0), no)
	b.says(settle(0, 7), answer{n: 7, ok: true})
	b.alike("the examples")
}

// The document's examples 9 and 10.
func TestExamplesOfTheWhole(t *testing.T) {
	b := with(t, seven)
	b.play(cut(0, 2), send(0))
	if row := b.play(give(0, d, 0)); row.Code != api.ErrCut || row.Dev.State != api.Down {
		t.Fatalf("P13.3: %+v", row)
	}
	b.says(settle(0, 4), answer{n: 4})
	b.play(reset(0, d, 0))
	b.says(settle(0, 7), answer{n: 3, ok: true})
	if got := b.see(0, d).Session; got != 1 {
		t.Errorf("P7: session %d", got)
	}
	b = of(t, netOf(1, seven))
	b.up(0)
	b.play(reset(0, d, 0))
	b.says(settle(0, 7), answer{n: 7})
	if got := b.see(0, d); got.State != api.Done || got.Latched != api.ErrExhausted {
		t.Errorf("P7: %+v", got)
	}
}

// At most so many, and no more than are needed.
func TestSettleAtMost(t *testing.T) {
	// How often an exchange is needed, behind each of these.
	for needed, ahead := range map[int]func(b *bench){
		0: func(*bench) {},
		1: func(b *bench) { b.play(tick(0, d, seven.Watch)) },
		3: func(b *bench) { b.play(reset(0, h, 0), reset(0, d, 0)) },
		6: func(b *bench) { b.play(reset(0, h, 0)) },
		7: func(b *bench) { b.play(reset(0, d, 0)) },
	} {
		for _, most := range []int{least, -7, -1, 0, 1, 2, 3, 4, 5, 6, 7, 8, 100, top} {
			b := talking(t, seven)
			ahead(b)
			n := max(0, min(needed, most))
			b.says(settle(0, most), answer{n: n, ok: n == needed})
			b.isUp(0, n == needed)
			b.alike("Settle")
			if n < needed {
				// What is left of them, in two parts.
				b.says(settle(0, needed-n-1), answer{n: needed - n - 1})
				b.says(settle(0, top), answer{n: 1, ok: true})
			}
			b.goesOn(0)
		}
	}
}

// The moves of a Settle are those of its exchanges.
func TestSettleIsExchanges(t *testing.T) {
	b := talking(t, seven)
	b.play(reset(0, h, 0))
	var moves []api.Move
	for i := range 6 {
		frame := b.x.Frames() + 2*i
		moves = append(moves, send(0), give(0, d, frame), give(0, h, frame+1))
	}
	b.comesTo(settle(0, 7), answer{n: 6, ok: true}, append(moves, ack(0, d))...)
	b.comesTo(settle(0, 7), answer{ok: true})
}

// Some never come up: each exchange is counted all the same, whatever it was.
func TestSettleInVain(t *testing.T) {
	otherSet, otherCode := netOf(9, seven), netOf(9, seven)
	otherSet.Devices[0].Watch++
	otherCode.Devices[0].Code++
	down, done := talking(t, seven), talking(t, counting(2))
	down.goesDown()
	done.play(tick(0, d, seven.Watch), send(0))
	for _, v := range []struct {
		b *bench
		// How many an exchange is.
		moves int
	}{{of(t, otherSet), 3}, {of(t, otherCode), 2}, {down, 2}, {done, 1}} {
		for _, most := range []int{1, 2, 30} {
			ahead := v.b.w.Moves()
			v.b.says(settle(0, most), answer{n: most})
			if got := v.b.w.Moves() - ahead; got != most*v.moves {
				t.Errorf("P19.4: %d moves, not %d", got, most*v.moves)
			}
		}
		// P1: it ends at the limit of moves.
		n := (api.MaxMoves - v.b.w.Moves()) / v.moves
		v.b.says(settle(0, top), answer{n: n, e: api.ErrFull})
		v.b.alike("Settle")
	}
}

// An error in the midst: how many were done ahead of it.
func TestSettleAtTheLimit(t *testing.T) {
	t.Parallel()
	for left := range 11 {
		b := with(t, seven)
		b.fill(left)
		want := answer{n: left / 3, e: api.ErrFull}
		if left >= 9 {
			want = answer{n: 3, ok: true}
		}
		b.says(settle(0, 7), want)
		b.alike("Settle")
	}
	// The error comes with an acknowledgement: that exchange wasn't done.
	for left := range 12 {
		b := with(t, seven)
		b.play(tick(0, h, 10), tick(0, d, 10))
		b.fill(left)
		want := answer{n: min(left/3, 2), e: api.ErrFull}
		if left >= 11 {
			want = answer{n: 3, ok: true}
		}
		b.says(settle(0, 7), want)
	}
	// Where no exchange is wanted there is no error.
	b := talking(t, seven)
	b.fill(0)
	b.says(settle(0, 7), answer{ok: true})
	b = with(t, seven)
	b.fill(0)
	b.says(settle(0, 0), no)
	b.says(settle(0, -1), no)
	b.says(settle(0, 1), wrong(api.ErrFull))
}

func TestSettleOfWhatIsNot(t *testing.T) {
	for _, most := range []int{least, 0, 1, top} {
		for _, k := range []int{0, 1, -1, top, least} {
			for _, w := range []*world.World{nil, {}} {
				if n, up, e := fair.Settle(w, k, most); n != 0 || up || e != api.ErrNil {
					t.Errorf("P19.4, R7: Settle(nil, %d, %d): %d, %v, %d", k, most, n, up, e)
				}
			}
		}
	}
	b := with(t, seven, api.Param{Code: 9, Out: 1, In: 1, Watch: 3, Count: 20})
	refuses := func() {
		t.Helper()
		for _, most := range []int{least, 0, 1, top} {
			for _, k := range []int{-1, 2, top, least} {
				b.comesTo(settle(k, most), wrong(api.ErrConn))
			}
		}
	}
	refuses()
	b.up(1)
	b.isUp(0, false)
	// That comes ahead of the moves that aren't left.
	b.fill(0)
	refuses()
}
