package world_test

import (
	"testing"

	"parapet/api"
)

// run is a bench that is observed.
type run struct {
	*bench
	o *observer
}

func newRun(t *testing.T, n api.Net) *run {
	t.Helper()
	k := of(t, n)
	return &run{bench: k, o: observe(t, k.w)}
}

// do: a move, held against the twin and the document's promises.
func (r *run) do(m api.Move) api.Row {
	r.t.Helper()
	row, e := r.play(m)
	if e == api.OK {
		r.o.see(m, row)
	}
	return row
}

// fair: a whole exchange, and the operator's acknowledgements.
func (r *run) fair(conn int) {
	r.t.Helper()
	row := r.do(send(conn))
	if row.Sent >= 0 {
		row = r.do(give(conn, d, row.Sent))
	}
	if row.Sent >= 0 {
		r.do(give(conn, h, row.Sent))
	}
	for _, s := range []api.Side{h, d} {
		if r.see(conn, s).Request {
			r.do(ack(conn, s))
		}
	}
}

// small sets: their numbers and ticks end soon.
var (
	little = api.Param{Code: 7, Out: 2, In: 1, Watch: 2, Count: 3}
	other  = api.Param{Code: 9, Out: 1, In: 1, Watch: 3, Count: 4}
)

// alphabet: the steps of short scripts; each goes by what has been sent.
func alphabet() []func(r *run) {
	return []func(r *run){
		func(r *run) { r.do(send(0)) },
		func(r *run) { r.do(give(0, d, r.lastFrame())) },
		func(r *run) { r.do(give(0, h, r.lastFrame())) },
		func(r *run) { r.do(give(0, d, 0)) },
		func(r *run) { r.do(give(0, h, 1)) },
		func(r *run) { r.do(give(0, d, r.lastFrame()-1)) },
		func(r *run) { r.fair(0) },
		func(r *run) { r.do(garble(0, d, r.lastFrame(), 17, 0x123)) },
		func(r *run) { r.do(tick(0, h, 1)) },
		func(r *run) { r.do(tick(0, d, 2)) },
		func(r *run) { r.do(ack(0, d)) },
		func(r *run) { r.do(reset(0, h, 0)) },
		func(r *run) { r.do(reset(0, d, 2)) },
		func(r *run) { r.do(cut(0, 2)) },
		func(r *run) { r.do(write(0, h, r.w.Moves()%3 == 0, byte(r.w.Moves()), 1)) },
		func(r *run) { r.fair(1) },
	}
}

// begin: so many exchanges of each connection.
func begin(t *testing.T, exchanges int) *run {
	t.Helper()
	r := newRun(t, netOf(2, little, other))
	for range exchanges {
		r.fair(0)
		r.fair(1)
	}
	return r
}

// Every script of three steps, behind unlike beginnings.
func TestEveryShortScript(t *testing.T) {
	steps := alphabet()
	n := len(steps)
	runs, on, latched, down := 0, 0, 0, 0
	for _, exchanges := range []int{0, 1, 3, 4} {
		for script := range n * n * n {
			r := begin(t, exchanges)
			for at, rest := 0, script; at < 3; at, rest = at+1, rest/n {
				steps[rest%n](r)
			}
			r.ends()
			if script%17 == 0 {
				r.holds()
			}
			runs++
			on += r.o.on
			latched += r.o.latched
			down += r.o.down
		}
	}
	if runs != 4*16*16*16 || on < 20000 || latched < 5000 || down < 50 {
		t.Errorf("too little was tried: %d runs, on %d times, latched %d times, down %d times", runs, on, latched, down)
	}
}

// chance gives numbers that look like chance, the same ones at each run.
type chance struct{ at uint64 }

func (c *chance) below(n int) int {
	c.at = c.at*6364136223846793005 + 1442695040888963407
	return int(c.at>>33) % n
}

func (c *chance) bytes(n int) []byte {
	b := make([]byte, n)
	for i := range b {
		b[i] = byte(c.below(256))
	}
	return b
}

func (c *chance) side() api.Side { return api.Side(1 + c.below(2)) }

// late: a frame, most likely one of the last that were sent.
func (c *chance) late(r *run) int {
	n := r.w.Frames()
	if n > 0 && c.below(4) > 0 {
		return n - 1 - c.below(min(n, 8))
	}
	return c.below(n + 1)
}

// mess: an adversary's move.
func (c *chance) mess(r *run) api.Move {
	conn := c.below(len(r.x.hosts))
	s := c.side()
	set := r.x.net.Hosts[conn]
	switch n := c.below(40); {
	case n < 9:
		return send(conn)
	case n < 22:
		return give(conn, s, c.late(r))
	case n < 24:
		return garble(conn, s, c.late(r), c.below(200), 1<<c.below(32)|uint32(c.below(256)))
	case n < 28:
		return tick(conn, s, c.below(3))
	case n < 29:
		return tick(conn, s, set.Watch)
	case n < 32:
		return ack(conn, s)
	case n < 36:
		size := set.Out
		if s == d {
			size = set.In
		}
		return write(conn, s, c.below(5) == 0, c.bytes(size)...)
	case n < 37 && c.below(6) == 0:
		return reset(conn, h, 0)
	case n < 38 && c.below(4) == 0:
		return reset(conn, d, c.below(9))
	case n < 39 && c.below(4) == 0:
		return cut(conn, c.below(7))
	}
	return api.Move{Kind: api.MoveKind(c.below(10)), Conn: c.below(5) - 1, Side: api.Side(c.below(4)), Frame: c.below(40) - 1, At: c.below(200) - 1, Word: uint32(c.below(5)), N: c.below(3) - 1, Data: c.bytes(c.below(4))}
}

// revive: devices that are Down, and hosts that are Done, are reset now and then.
func (c *chance) revive(r *run) {
	for conn := range r.x.hosts {
		if r.see(conn, d).State == api.Down && c.below(3) == 0 {
			r.do(reset(conn, d, 0))
		}
		if r.see(conn, h).State == api.Done && c.below(3) == 0 {
			r.do(reset(conn, h, 0))
		}
	}
}

// nets of all sizes; sessions, numbers and ticks that end soon, and such that don't.
func (c *chance) net() api.Net {
	var list []api.Param
	for i := range 1 + c.below(4) {
		list = append(list, api.Param{Code: uint32(5 + 2*i), Out: 1 + c.below(3), In: 1 + c.below(3), Watch: 2 + c.below(9), Count: uint32(2 + c.below(40))})
	}
	n := netOf(uint32(1+c.below(200)), list...)
	if c.below(6) == 0 {
		n.Devices[0].Watch++
	}
	return n
}

// P17.4, and the twin: long scripts of an adversary, with fair exchanges between.
func TestLongScripts(t *testing.T) {
	c := &chance{at: 17}
	sum := observer{}
	for range 120 {
		r := newRun(t, c.net())
		for range 60 {
			conn := c.below(len(r.x.hosts))
			for range c.below(8) {
				r.fair(conn)
			}
			for range c.below(14) {
				r.do(c.mess(r))
			}
			c.revive(r)
		}
		r.holds()
		sum.on += r.o.on
		sum.taken += r.o.taken
		sum.latched += r.o.latched
		sum.acked += r.o.acked
		sum.sessions += r.o.sessions
		sum.done += r.o.done
		sum.down += r.o.down
	}
	if sum.on < 5000 || sum.taken < 5000 || sum.latched < 5000 || sum.acked < 300 || sum.sessions < 1000 || sum.done < 200 || sum.down < 50 {
		t.Errorf("too little was tried: on %d, taken %d, latched %d, acknowledged %d, sessions %d, done %d, down %d", sum.on, sum.taken, sum.latched, sum.acked, sum.sessions, sum.done, sum.down)
	}
}

// replay: every frame that was ever sent, in its order, to an end.
func (r *run) replay(conn int, s api.Side) {
	r.t.Helper()
	for i := range r.w.Frames() {
		r.do(give(conn, s, i))
		if r.see(conn, s).Request {
			r.do(ack(conn, s))
		}
	}
}

// P17.4: whole sessions come again, behind all that ends one.
func TestReplays(t *testing.T) {
	ends := []func(r *run){
		func(r *run) {},
		func(r *run) {
			for range api.ResyncMax + 1 {
				r.do(send(0))
			}
		},
		func(r *run) {
			for range api.ResyncMax {
				r.do(give(0, d, 2))
			}
		},
		func(r *run) { r.do(reset(0, h, 0)) },
		func(r *run) { r.do(reset(0, d, 0)) },
		func(r *run) { r.do(reset(0, d, 3)); r.do(reset(0, d, 0)) },
		func(r *run) { r.do(tick(0, h, 10)); r.do(tick(0, d, 10)) },
		func(r *run) {
			for range 8 {
				r.fair(0)
			}
		},
	}
	taken, sessions := 0, 0
	for _, one := range ends {
		for _, two := range ends {
			for _, s := range []api.Side{h, d} {
				r := newRun(t, netOf(50, api.Param{Code: 7, Out: 2, In: 1, Watch: 10, Count: 9}))
				for n := range byte(6) {
					r.do(write(0, h, false, n, n+1))
					r.do(write(0, d, false, n+2))
					r.fair(0)
				}
				one(r)
				r.replay(0, s)
				two(r)
				r.replay(0, 3-s)
				for range 8 {
					r.fair(0)
				}
				r.replay(0, s)
				r.holds()
				taken += r.o.taken
				sessions += r.o.sessions
			}
		}
	}
	if taken < 1000 || sessions < 300 {
		t.Errorf("too little was tried: %d taken, %d sessions", taken, sessions)
	}
}

// A script of as many moves as there may be.
func TestLongestScript(t *testing.T) {
	c := &chance{at: 18}
	r := newRun(t, netOf(greatest, api.Param{Code: 3, Out: 2, In: 1, Watch: 6, Count: 1000}, api.Param{Code: 4, Out: 1, In: 2, Watch: 4, Count: 30}))
	for r.w.Moves() < api.MaxMoves {
		for range c.below(4) {
			r.fair(c.below(2))
		}
		r.do(c.mess(r))
		c.revive(r)
	}
	r.refuses(send(0), api.ErrFull)
	r.holds()
	if r.o.on < 500 {
		t.Errorf("too little was tried: on %d times", r.o.on)
	}
}

func TestTwoInTurns(t *testing.T) {
	// Each goes by what it was told, whatever the other one is told between.
	c := &chance{at: 19}
	for range 15 {
		a, b := newRun(t, c.net()), newRun(t, c.net())
		for range 150 {
			r := a
			if c.below(3) == 1 {
				r = b
			}
			if c.below(2) == 0 {
				r.fair(0)
			}
			r.do(c.mess(r))
			a.ends()
			b.ends()
		}
		a.holds()
		b.holds()
	}
}

func TestTheSameAgain(t *testing.T) {
	// R8: what one world is told, told to another, is answered the same.
	runs := func() []string {
		c := &chance{at: 20}
		r := newRun(t, netOf(50, sets[:4]...))
		var list []string
		for range 300 {
			if c.below(2) == 0 {
				r.fair(c.below(4))
			}
			r.do(c.mess(r))
			if r.w.Moves()%10 == 0 {
				list = append(list, snapshot(r.w))
			}
		}
		return append(list, snapshot(r.w))
	}
	once := runs()
	for range 2 {
		again := runs()
		if len(again) != len(once) {
			t.Fatalf("R8: %d answers, then %d", len(once), len(again))
		}
		for i, got := range again {
			if got != once[i] {
				t.Fatalf("R8: answer %d: %s, then %s", i, once[i], got)
			}
		}
	}
}
