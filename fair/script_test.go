package fair_test

import (
	"testing"

	"parapet/api"
	"parapet/fair"
	"parapet/ghost"
)

// run is a bench under a script.
type run struct {
	*bench
	net   api.Net
	moves []api.Move
	// Of each connection: may the power of its memory go at a write?
	armed []bool
}

func newRun(t *testing.T, n api.Net) *run {
	t.Helper()
	return &run{bench: of(t, n), net: n, armed: make([]bool, len(n.Hosts))}
}

// do: a move; where it is refused the worlds stay as they are.
func (r *run) do(m api.Move) api.Row {
	r.t.Helper()
	row, e := r.bench.do(m)
	if e != api.OK {
		return api.Row{Sent: -1}
	}
	r.moves = append(r.moves, m)
	switch {
	case m.Kind == api.MoveCut:
		r.armed[m.Conn] = true
	case m.Kind == api.MoveReset && m.Side == d:
		r.armed[m.Conn] = m.N > 0
	}
	return row
}

// again: the same script over worlds of their own.
func (r *run) again() *run {
	r.t.Helper()
	twin := newRun(r.t, r.net)
	for _, m := range r.moves {
		twin.do(m)
	}
	return twin
}

// lossy: an exchange of which only so many moves come about, and acknowledgements where they are asked for.
func (r *run) lossy(k, moves int) {
	r.t.Helper()
	row := r.do(send(k))
	if row.Sent >= 0 && moves > 1 {
		row = r.do(give(k, d, row.Sent))
	}
	if row.Sent >= 0 && moves > 2 {
		r.do(give(k, h, row.Sent))
	}
	for _, s := range []api.Side{h, d} {
		if moves > 2 && r.see(k, s).Request {
			r.do(ack(k, s))
		}
	}
}

// exchanges: so many whole ones.
func (r *run) exchanges(k, n int) {
	r.t.Helper()
	for range n {
		r.lossy(k, 3)
	}
}

// ready: do the premises of P19.6 hold?
func (r *run) ready(k int) bool {
	r.t.Helper()
	p, a, z := r.net.Hosts[k], r.see(k, h), r.see(k, d)
	bound := uint32(fair.Bound())
	return p == r.net.Devices[k] && a.State != api.Done && z.State != api.Down && !r.armed[k] && r.left(k) >= 2 &&
		p.Count > 2*bound && p.Count-2*bound > a.Sent && r.w.Moves() <= api.MaxMoves-10*fair.Bound()
}

// value: n bytes, beginning so.
func value(n int, first byte) []byte {
	b := make([]byte, n)
	for i := range b {
		b[i] = first + byte(i)
	}
	return b
}

// speak: a talk with values of the right lengths.
func (r *run) speak(k, turn int) bool {
	r.t.Helper()
	p, z := r.net.Hosts[k], r.net.Devices[k]
	return r.asks(talk(k, value(p.Out, byte(turn)), value(z.In, byte(3*turn)))).ok
}

// tally: how much was tried.
type tally struct {
	states, ready int
	// By the number of exchanges that Settle took, and of the talk that was the first true one.
	settled, talked [9]int
}

// holds: P19.6, where its premises hold, and P19.2 to P19.5 in any case; the run itself stays as it is.
func (y *tally) holds(r *run, k int, c *chance) {
	r.t.Helper()
	y.states++
	ready := r.ready(k)
	if ready {
		y.ready++
	}
	y.settles(r.again(), k, c, ready)
	y.talks(r.again(), k, c, ready)
}

// isGood: P3 to P5 of what was played, calls and moves: a judge finds nothing.
func (r *run) isGood() {
	r.t.Helper()
	if got := ghost.Check(r.net, r.w.Facts()); got != (api.Verdict{}) {
		r.t.Fatalf("P5: behind %+v of %+v: %+v", r.moves, r.net, got)
	}
}

// settles: Settle with Bound exchanges, in two parts or at once.
func (y *tally) settles(r *run, k int, c *chance, ready bool) {
	r.t.Helper()
	defer r.isGood()
	ahead := 0
	if c.below(3) == 0 {
		ahead = r.asks(settle(k, c.below(4))).n
	}
	got := r.asks(settle(k, fair.Bound()-ahead))
	if !ready {
		return
	}
	if !got.ok || got.e != api.OK || ahead+got.n > fair.Bound() {
		r.t.Fatalf("P19.6: behind %+v of %+v: Settle: %+v: %+v, %+v", r.moves, r.net, got, r.see(k, h), r.see(k, d))
	}
	y.settled[ahead+got.n]++
}

// talks: Bound + 1 talks, of which one is true; and what comes behind that one.
func (y *tally) talks(r *run, k int, c *chance, ready bool) {
	r.t.Helper()
	defer r.isGood()
	first := 0
	for turn := 1; turn <= fair.Bound()+1 && first == 0; turn++ {
		if r.speak(k, turn) {
			first = turn
		}
	}
	if !ready {
		return
	}
	if first == 0 {
		r.t.Fatalf("P19.6: behind %+v of %+v: no talk: %+v, %+v", r.moves, r.net, r.see(k, h), r.see(k, d))
	}
	y.talked[first]++
	for turn := range c.below(20) {
		if r.see(k, h).Sent+1 >= r.net.Hosts[k].Count || r.w.Moves()+9 > api.MaxMoves {
			break
		}
		// Fewer than Watch in all, in two parts.
		for _, s := range []api.Side{h, d} {
			n := c.below(r.net.Hosts[k].Watch)
			r.bench.do(tick(k, s, n))
			r.bench.do(tick(k, s, c.below(r.net.Hosts[k].Watch-n)))
		}
		if !r.speak(k, 50+turn) {
			r.t.Fatalf("P19.6: behind %+v of %+v: talk %d was true, and one behind it isn't: %+v, %+v", r.moves, r.net, first, r.see(k, h), r.see(k, d))
		}
	}
}

// atLeast: so many states, so many of them with all premises, and each number of exchanges and of talks so often.
func (y *tally) atLeast(t *testing.T, states, ready, each int) {
	t.Helper()
	enough := y.states >= states && y.ready >= ready
	for n := range fair.Bound() + 1 {
		enough = enough && y.settled[n] >= each && y.talked[n+1] >= each
	}
	if !enough {
		t.Errorf("too little was tried: %+v", *y)
	}
}

// chance gives numbers that look like chance, the same ones at each run.
type chance struct{ at uint64 }

func (c *chance) below(n int) int {
	c.at = c.at*6364136223846793005 + 1442695040888963407
	return int(c.at>>33) % n
}

func (c *chance) side() api.Side { return api.Side(1 + c.below(2)) }

// replay: frames of the bag, in their order, to an end.
func (r *run) replay(k int, s api.Side, from, to int) {
	r.t.Helper()
	for frame := from; frame < min(to, r.w.Frames()); frame++ {
		r.do(give(k, s, frame))
	}
}

// steps: what an adversary does in a short script.
func steps() []func(r *run) {
	last := func(r *run) int { return r.w.Frames() - 1 }
	return []func(r *run){
		func(r *run) { r.lossy(0, 1) },
		func(r *run) { r.lossy(0, 2) },
		func(r *run) { r.exchanges(0, 3) },
		func(r *run) { r.do(give(0, d, 0)) },
		func(r *run) { r.do(give(0, d, 0)); r.do(give(0, d, 0)); r.do(give(0, d, 0)) },
		func(r *run) { r.do(give(0, h, last(r))); r.do(give(0, d, last(r)-1)) },
		func(r *run) { r.replay(0, h, 0, 8) },
		func(r *run) { r.replay(0, d, 0, r.w.Frames()) },
		func(r *run) { r.do(tick(0, h, 4)) },
		func(r *run) { r.do(tick(0, d, 4)) },
		func(r *run) { r.do(reset(0, h, 0)) },
		func(r *run) { r.do(reset(0, d, 0)) },
		func(r *run) { r.do(cut(0, 3)); r.do(give(0, d, 0)) },
		func(r *run) { r.lossy(0, 1); r.lossy(0, 1); r.lossy(0, 1) },
	}
}

// Every script of three steps, behind unlike beginnings.
func TestEveryShortScript(t *testing.T) {
	t.Parallel()
	c := &chance{at: 31}
	list := steps()
	n := len(list)
	var y tally
	for _, exchanges := range []int{0, 2, 4} {
		for script := range n * n * n {
			r := newRun(t, netOf(9, api.Param{Code: 7, Out: 2, In: 1, Watch: 4, Count: 24}))
			r.exchanges(0, exchanges)
			for at, rest := 0, script; at < 3; at, rest = at+1, rest/n {
				list[rest%n](r)
			}
			y.holds(r, 0, c)
		}
	}
	y.atLeast(t, 3*n*n*n, 6000, 100)
}

// net: of all sizes; sessions, numbers and ticks that end soon, and such that don't.
func (c *chance) net() api.Net {
	var sets []api.Param
	for i := range 1 + c.below(3) {
		sets = append(sets, api.Param{Code: uint32(5 + 2*i), Out: 1 + c.below(8), In: 1 + c.below(3), Watch: 1 + c.below(9), Count: uint32(15 + c.below(60))})
	}
	n := netOf(uint32(1+c.below(40)), sets...)
	switch c.below(12) {
	case 0:
		n.Devices[0].Count++
	case 1:
		n.Devices[0].Code = 99
	case 2:
		n.Hosts[0].Count, n.Devices[0].Count = 6, 6
	}
	return n
}

// late: a frame, most likely one of the last that were sent.
func (c *chance) late(r *run) int {
	n := r.w.Frames()
	if n > 0 && c.below(4) > 0 {
		return n - 1 - c.below(min(n, 8))
	}
	return c.below(n + 1)
}

// mess: what an adversary does, also with frames of other connections.
func (c *chance) mess(r *run) {
	r.t.Helper()
	k, s := c.below(len(r.net.Hosts)), c.side()
	p := r.net.Hosts[k]
	switch n := c.below(32); {
	case n < 8:
		r.lossy(k, 1+c.below(3))
	case n < 16:
		r.do(give(k, s, c.late(r)))
	case n < 17:
		r.do(api.Move{Kind: api.MoveGarble, Conn: k, Side: s, Frame: c.late(r), At: c.below(180), Word: 1<<c.below(32) | uint32(c.below(256))})
	case n < 19:
		r.do(tick(k, s, c.below(p.Watch+1)))
	case n < 20:
		r.do(ack(k, s))
	case n < 21:
		r.do(hold(k, h, value(p.Out, byte(n))...))
	case n < 23:
		from := c.below(r.w.Frames() + 1)
		r.replay(k, s, from, from+c.below(20))
	case n < 25:
		r.do(reset(k, h, 0))
	case n < 26:
		r.do(reset(k, d, c.below(9)))
	case n < 28:
		r.do(reset(k, d, 0))
	case n < 29:
		r.do(cut(k, c.below(7)))
	default:
		frame := c.late(r)
		for range 1 + c.below(4) {
			r.do(give(k, d, frame))
		}
	}
}

// Scripts of many moves; each connection is tried behind them, again and again.
func TestLongScripts(t *testing.T) {
	t.Parallel()
	c := &chance{at: 32}
	var y tally
	for range 150 {
		r := newRun(t, c.net())
		for range 12 {
			for range c.below(5) {
				r.exchanges(c.below(len(r.net.Hosts)), c.below(6))
			}
			for range c.below(10) {
				c.mess(r)
			}
			y.holds(r, c.below(len(r.net.Hosts)), c)
		}
	}
	y.atLeast(t, 1500, 700, 10)
}
