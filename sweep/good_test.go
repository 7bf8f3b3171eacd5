package sweep_test

import (
	"testing"

	"parapet/api"
	"parapet/world"
)

// net: of all sizes; sessions, numbers and ticks that end soon, and such that don't.
func (c *chance) net() api.Net {
	var sets []api.Param
	for i := range 1 + c.below(3)*c.below(4) {
		sets = append(sets, api.Param{Code: uint32(5 + 2*i), Out: 1 + c.below(8), In: 1 + c.below(3), Watch: 1 + c.below(6), Count: uint32(2 + c.below(30))})
	}
	n := netOf(sets...)
	n.MaxSession = uint32(1 + c.below(60))
	switch c.below(8) {
	case 0:
		n.Devices[0].Watch++
	case 1:
		// They never come together.
		n.Devices[0].Code = 1000
	}
	return n
}

// late: a frame, most likely one of the last that were sent, or one of the next.
func (c *chance) late(frames int) int { return max(0, frames+2-c.below(8)) }

// mess: an adversary's move, while so many frames were sent.
func (c *chance) mess(n api.Net, frames int) api.Move {
	conn, s := c.below(len(n.Hosts)), c.side()
	size, watch := n.Hosts[conn].Out, n.Hosts[conn].Watch
	if s == d {
		size, watch = n.Devices[conn].In, n.Devices[conn].Watch
	}
	switch c.below(16) {
	case 0, 1, 2:
		return send(conn)
	case 3, 4, 5, 6:
		return give(conn, s, c.late(frames))
	case 7:
		return give(conn, s, c.below(frames+1))
	case 8:
		return garble(conn, s, c.below(frames+1), c.below(150), 1<<c.below(32)|uint32(c.below(256)))
	case 9:
		return tick(conn, s, 1+c.below(2))
	case 10:
		return tick(conn, s, watch)
	case 11, 12:
		return ack(conn, s)
	case 13:
		m := write(conn, s, c.bytes(size)...)
		m.Hold = c.below(4) == 0
		return m
	case 14:
		return reset(conn, s, c.below(4)*int(s-h))
	}
	return cut(conn, c.below(6))
}

// beginning: fair exchanges and an adversary's moves, at most so many; and how many frames they send.
func (c *chance) beginning(t *testing.T, n api.Net, most int) ([]api.Move, int) {
	t.Helper()
	w, e := world.New(n)
	if e != api.OK {
		t.Fatalf("P17.1: New(%+v): %d", n, e)
	}
	var list []api.Move
	do := func(m api.Move) {
		if len(list) < most {
			list = append(list, m)
			w.Play(m)
		}
	}
	for len(list) < most {
		conn := c.below(len(n.Hosts))
		for range c.below(6) {
			do(write(conn, h, c.bytes(n.Hosts[conn].Out)...))
			do(write(conn, d, c.bytes(n.Devices[conn].In)...))
			do(send(conn))
			do(give(conn, d, w.Frames()-1))
			do(give(conn, h, w.Frames()-1))
			do(ack(conn, c.side()))
		}
		for range c.below(4) {
			do(c.mess(n, w.Frames()))
		}
	}
	return list, w.Frames()
}

// alphabet: so many moves of an adversary.
func (c *chance) alphabet(n api.Net, frames, length int) (list []api.Move) {
	for range length {
		list = append(list, c.mess(n, frames))
	}
	return list
}

// tried is what was swept through.
type tried struct {
	api.Tally
	kinds [9]int
}

func (x *tried) add(y api.Tally, alphabet []api.Move) {
	x.Runs += y.Runs
	x.Taken += y.Taken
	x.Latched += y.Latched
	x.On += y.On
	for _, m := range alphabet {
		x.kinds[m.Kind]++
	}
}

func (x tried) atLeast(t *testing.T, runs, kinds int) {
	t.Helper()
	if x.Runs < runs || x.Taken < runs || x.Latched < runs/10 || x.On < runs/10 {
		t.Errorf("too little was tried: %+v", x.Tally)
	}
	for kind, n := range x.kinds[1:] {
		if n < kinds {
			t.Errorf("too little was tried: a move of the kind %d %d times", kind+1, n)
		}
	}
}

// P22.3, and each field: many nets, beginnings and alphabets.
func TestManySweeps(t *testing.T) {
	c := &chance{at: 31}
	var all tried
	shapes := [][2]int{{16, 1}, {12, 2}, {16, 2}, {5, 3}, {6, 3}, {3, 4}, {4, 4}, {1, 4}, {2, 4}}
	for turn := range 180 {
		n := c.net()
		first, frames := c.beginning(t, n, c.below(60))
		shape := shapes[turn%len(shapes)]
		alphabet := c.alphabet(n, frames, shape[0])
		all.add(holds(t, n, first, alphabet, shape[1]), alphabet)
	}
	all.atLeast(t, 15000, 40)
}

// P22.3 of the greatest sizes, behind short beginnings and long ones.
func TestGreatSweeps(t *testing.T) {
	c := &chance{at: 32}
	var all tried
	for turn := range 6 {
		n := c.net()
		first, frames := c.beginning(t, n, []int{0, 12, 40, 90, 40, 256}[turn])
		length, depth := 16, 3
		if turn%2 == 1 {
			length, depth = 8, 4
		}
		alphabet := c.alphabet(n, frames, length)
		all.add(holds(t, n, first, alphabet, depth), alphabet)
	}
	all.atLeast(t, 6*4096, 2)
}

// P22.3: from each place of the handshake and of the talk behind it on, what can disturb it most.
func TestSweepsFromEveryPlace(t *testing.T) {
	p := api.Param{Code: 7, Out: 2, In: 1, Watch: 2, Count: 4}
	list := append(exchanges(0, 0, 3), write(0, h, 1, 2), write(0, d, 3))
	list = append(list, exchanges(0, 6, 4)...)
	frames := 0
	for at, m := range append(list, api.Move{}) {
		alphabet := []api.Move{
			send(0), give(0, d, frames), give(0, h, frames), give(0, d, max(0, frames-1)), give(0, h, max(0, frames-1)),
			tick(0, h, 2), tick(0, d, 1), ack(0, d), reset(0, h, 0), reset(0, d, 3), cut(0, 2), garble(0, d, 0, 70, 7),
		}
		holds(t, netOf(p), list[:at], alphabet, 2)
		if m.Kind == api.MoveSend || m.Kind == api.MoveDeliver && m.Side == d {
			frames++
		}
	}
}
