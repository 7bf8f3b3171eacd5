package fair_test

import (
	"bytes"
	"reflect"
	"testing"

	"parapet/api"
)

// roomy is a list of these bytes, with others ahead of it and in its spare room.
func roomy(b []byte) (list, whole []byte) {
	whole = bytes.Repeat([]byte{0x5a}, len(b)+24)
	copy(whole[8:], b)
	return whole[8 : 8+len(b)], whole
}

// spoil changes each byte.
func spoil(b []byte) {
	for i := range b {
		b[i] ^= 0xff
	}
}

// The lists that are handed to Talk are neither changed nor kept, with the room around them.
func TestListsAreNotKept(t *testing.T) {
	for out := range 4 {
		for in := range 4 {
			b := talking(t, seven)
			downList, downWhole := roomy(value(out, 1))
			upList, upWhole := roomy(value(in, 9))
			downWas, upWas := bytes.Clone(downWhole), bytes.Clone(upWhole)
			b.says(talk(0, downList, upList), answer{ok: out == 2 && in == 1})
			if !bytes.Equal(downWhole, downWas) || !bytes.Equal(upWhole, upWas) {
				t.Fatalf("R6: Talk changes % x or % x, or the room around them", downList, upList)
			}
			shown := []api.End{b.see(0, h), b.see(0, d)}
			spoil(downWhole)
			spoil(upWhole)
			downWas, upWas = bytes.Clone(downWhole), bytes.Clone(upWhole)
			if got := []api.End{b.see(0, h), b.see(0, d)}; !reflect.DeepEqual(got, shown) {
				t.Fatalf("R6: a list that is changed behind Talk changes %+v to %+v", shown, got)
			}
			// What the applications wrote goes out again.
			b.says(exchange(0), yes)
			wantDown, wantUp := down, up
			if out == 2 {
				wantDown = value(2, 1)
			}
			if out == 2 && in == 1 {
				wantUp = value(1, 9)
			}
			if a, z := b.see(0, h), b.see(0, d); !bytes.Equal(a.Out, wantUp) || !bytes.Equal(z.Out, wantDown) {
				t.Fatalf("R6: behind a Talk whose lists are changed then: %+v, %+v", a, z)
			}
			if !bytes.Equal(downWhole, downWas) || !bytes.Equal(upWhole, upWas) {
				t.Fatal("R6: what was handed in is written later")
			}
			b.goesOn(0)
		}
	}
}

// One list for both, and two that meet.
func TestListsThatMeet(t *testing.T) {
	b := with(t, api.Param{Code: 7, Out: 3, In: 3, Watch: 10, Count: 100})
	b.up(0)
	list := []byte{1, 2, 3, 4, 5}
	b.says(talk(0, list[:3], list[:3]), yes)
	b.says(talk(0, list[:3], list[2:]), yes)
	b.says(talk(0, list[1:4], list[:3]), yes)
	if !bytes.Equal(list, []byte{1, 2, 3, 4, 5}) {
		t.Errorf("R6: Talk changes % x", list)
	}
}

// anyCall: a call with any arguments, most of them lawful.
func (c *chance) anyCall(n api.Net) call {
	k := c.below(len(n.Hosts))
	if c.below(12) == 0 {
		k = []int{-1, len(n.Hosts), top, least}[c.below(4)]
		return []call{exchange(k), settle(k, c.below(3)), talk(k, down, up)}[c.below(3)]
	}
	switch c.below(3) {
	case 0:
		return exchange(k)
	case 1:
		return settle(k, c.below(10)-1)
	}
	down, up := value(n.Hosts[k].Out, byte(c.below(256))), value(n.Devices[k].In, byte(c.below(256)))
	if c.below(12) == 0 {
		down = down[1:]
	}
	if c.below(12) == 0 {
		up = append(up, 1)
	}
	return talk(k, down, up)
}

// R8: the same calls on two worlds alike are answered the same, and leave the same rows, whatever other worlds are asked between.
func TestTheSameCallsAgain(t *testing.T) {
	c := &chance{at: 33}
	for range 40 {
		n := c.net()
		r, other := newRun(t, n), newRun(t, c.net())
		for range 40 {
			asked := c.anyCall(n)
			got := asked.fair(r.w)
			other.asks(c.anyCall(other.net))
			c.mess(other)
			if again := asked.fair(r.x.World); again != got {
				t.Fatalf("R8: %s: %+v, and of a world alike %+v", asked.name, got, again)
			}
			r.near(asked.name)
			// Here the rows are held against each other.
			for range c.below(4) {
				c.mess(r)
			}
		}
		r.alike("the same calls")
		other.alike("the calls between")
	}
}

// Two worlds, and two connections of each, in turns: each goes by its own.
func TestInTurns(t *testing.T) {
	other := api.Param{Code: 9, Out: 1, In: 3, Watch: 3, Count: 30}
	a, z := with(t, seven, other), with(t, other, seven)
	for turn := range byte(12) {
		for _, v := range []struct {
			b  *bench
			k  int
			in int
		}{{a, 0, 1}, {z, 0, 3}, {a, 1, 3}, {z, 1, 1}} {
			down, up := value(3-(v.in+1)/2, turn), value(v.in, 2*turn)
			v.b.comesTo(talk(v.k, down, up), answer{ok: turn >= 3}, v.b.talked(v.k, down, up)...)
			v.b.isUp(v.k, turn >= 2)
		}
	}
	// One is reset: the others don't know.
	a.play(reset(0, h, 0))
	a.isUp(0, false)
	a.says(settle(1, 7), answer{ok: true})
	z.says(settle(0, 7), answer{ok: true})
	z.says(settle(1, 7), answer{ok: true})
	a.says(settle(0, 3), answer{n: 3})
	a.says(talk(1, value(1, 5), value(3, 5)), yes)
	z.says(talk(1, down, up), yes)
	a.says(settle(0, 7), answer{n: 3, ok: true})
	a.alike("in turns")
	z.alike("in turns")
}

// Calls and moves of all kinds, each held against the chapter's words, up to the limit of moves.
func TestCallsAmongMoves(t *testing.T) {
	t.Parallel()
	c := &chance{at: 34}
	for range 8 {
		r := newRun(t, c.net())
		for r.w.Moves() < api.MaxMoves {
			r.asks(c.anyCall(r.net))
			for k := range r.net.Hosts {
				r.isUp(k, r.x.isUp(k))
			}
			if c.below(2) == 0 {
				c.mess(r)
			}
		}
		for range 20 {
			r.asks(c.anyCall(r.net))
		}
		r.alike("calls among moves")
		r.isGood()
	}
}
