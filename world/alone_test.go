package world_test

import (
	"fmt"
	"testing"

	"parapet/api"
	"parapet/world"
)

// lived is what a connection's moves were, and what came of each, without the frames' numbers.
type lived struct {
	moves []api.Move
	told  []string
}

// tell: a row, but for its connection's place and its frames' numbers; what was sent as bytes.
func tell(w *world.World, row api.Row) string {
	frame, _ := w.Frame(row.Sent)
	return fmt.Sprint(row.Move.Kind, row.Move.Side, row.Move.N, row.Move.Hold, row.Move.Data, row.Code, row.Host, row.Dev, frame)
}

// factsOf: the facts of one connection, but for its place.
func factsOf(w *world.World, conn int) (list []string) {
	for _, f := range w.Facts() {
		if f.Conn == conn {
			f.Conn = 0
			list = append(list, fmt.Sprint(f))
		}
	}
	return list
}

// alone: a connection whose net has no other one, under an adversary.
func (c *chance) alone(t *testing.T, p api.Param) (*run, lived) {
	t.Helper()
	r := newRun(t, netOf(60, p))
	var l lived
	do := func(m api.Move) api.Row {
		row, e := r.play(m)
		if e == api.OK {
			r.o.see(m, row)
			l.moves = append(l.moves, m)
			l.told = append(l.told, tell(r.w, row))
		}
		return row
	}
	for range 60 {
		for range c.below(3) {
			row := do(send(0))
			if row.Sent >= 0 {
				row = do(give(0, d, row.Sent))
			}
			if row.Sent >= 0 {
				do(give(0, h, row.Sent))
			}
		}
		do(c.mess(r))
		if r.see(0, d).Request {
			do(ack(0, d))
		}
	}
	return r, l
}

// again: the moves of a connection once more, at another place, with something between; frames are found by
// their order among its own.
func (l lived) again(t *testing.T, w *world.World, conn int, own []int, between func()) (list []string) {
	t.Helper()
	for _, m := range l.moves {
		between()
		m.Conn = conn
		if m.Kind == api.MoveDeliver || m.Kind == api.MoveGarble {
			m.Frame = own[m.Frame]
		}
		row, e := w.Play(m)
		if e != api.OK {
			t.Fatalf("P17.5: Play(%+v): %d", m, e)
		}
		if row.Sent >= 0 {
			own = append(own, row.Sent)
		}
		list = append(list, tell(w, row))
	}
	return list
}

func compare(t *testing.T, what string, got, want []string) {
	t.Helper()
	if len(got) != len(want) {
		t.Fatalf("P17.5: %s: %d, not %d", what, len(got), len(want))
	}
	for i := range want {
		if got[i] != want[i] {
			t.Fatalf("P17.5: %s %d: %s, alone: %s", what, i, got[i], want[i])
		}
	}
}

// P17.5: a connection's rows and facts, alone and at any place among others that move between.
func TestAloneAndAmongOthers(t *testing.T) {
	c := &chance{at: 21}
	on := 0
	for turn := range 40 {
		place := turn % len(sets)
		p := sets[place]
		single, l := c.alone(t, p)
		on += single.o.on
		r := newRun(t, netOf(60, sets[:]...))
		rows := l.again(t, r.w, place, nil, func() {
			for range c.below(4) {
				m := c.mess(r)
				m.Conn = (place + 1 + c.below(len(sets)-1)) % len(sets)
				r.w.Play(m)
			}
		})
		compare(t, "row", rows, l.told)
		compare(t, "fact", factsOf(r.w, place), factsOf(single.w, 0))
		a, _ := r.w.Memory(place)
		b, _ := single.w.Memory(0)
		if string(a) != string(b) {
			t.Fatalf("P17.5: Memory: % x, alone: % x", a, b)
		}
	}
	if on < 500 {
		t.Errorf("too little was tried: on %d times", on)
	}
}

// ofOthers: a world in which two connections have come up and talked, and the third has done nothing.
func ofOthers(t *testing.T) *run {
	t.Helper()
	r := newRun(t, netOf(60, api.Param{Code: 30, Out: 2, In: 1, Watch: 5, Count: 20}, api.Param{Code: 31, Out: 2, In: 1, Watch: 5, Count: 20}, api.Param{Code: 32, Out: 2, In: 1, Watch: 5, Count: 20}))
	for range 5 {
		r.fair(1)
		r.fair(2)
	}
	return r
}

// P17.5: frames of others come to a connection too; what they do then hangs on the frames, not on what their senders do.
func TestFramesOfOthers(t *testing.T) {
	c := &chance{at: 22}
	refused := 0
	for range 30 {
		still, busy := ofOthers(t), ofOthers(t)
		var own []int
		for j := range still.w.Frames() {
			own = append(own, j)
		}
		var l lived
		for range 150 {
			m := c.mess(still)
			m.Conn = 0
			if c.below(3) == 0 {
				m = give(0, c.side(), c.below(still.w.Frames()))
			}
			row, e := still.play(m)
			if e != api.OK {
				continue
			}
			still.o.see(m, row)
			if row.Code == api.ErrCode {
				refused++
			}
			l.moves = append(l.moves, m)
			l.told = append(l.told, tell(still.w, row))
		}
		rows := l.again(t, busy.w, 0, own, func() {
			for range c.below(4) {
				m := c.mess(busy)
				m.Conn = 1 + c.below(2)
				busy.w.Play(m)
			}
		})
		compare(t, "row", rows, l.told)
		compare(t, "fact", factsOf(busy.w, 0), factsOf(still.w, 0))
	}
	if refused < 200 {
		t.Errorf("too little was tried: %d frames of others", refused)
	}
}
