package ghost_test

import (
	"bytes"
	"slices"
	"testing"

	"parapet/api"
	"parapet/ghost"
	"parapet/world"
)

// run is a world under a script.
type run struct {
	t *testing.T
	w *world.World
	// The net as it was handed in.
	net api.Net
}

func newRun(t *testing.T, n api.Net) *run {
	t.Helper()
	w, e := world.New(n)
	if e != api.OK {
		t.Fatalf("P17.1: New(%+v): %d", n, e)
	}
	return &run{t: t, w: w, net: n}
}

func (r *run) see(conn int, s api.Side) api.End {
	end, _ := r.w.See(conn, s)
	return end
}

// do: a move; where it is refused the world stays as it is.
func (r *run) do(m api.Move) api.Row {
	row, e := r.w.Play(m)
	if e != api.OK {
		return api.Row{Sent: -1}
	}
	return row
}

func (r *run) send(conn int) int { return r.do(api.Move{Kind: api.MoveSend, Conn: conn}).Sent }

func (r *run) give(conn int, s api.Side, frame int) int {
	return r.do(api.Move{Kind: api.MoveDeliver, Conn: conn, Side: s, Frame: frame}).Sent
}

func (r *run) write(conn int, s api.Side, data ...byte) {
	r.do(api.Move{Kind: api.MoveWrite, Conn: conn, Side: s, Data: data})
}

func (r *run) tick(conn int, s api.Side, n int) {
	r.do(api.Move{Kind: api.MoveTick, Conn: conn, Side: s, N: n})
}

func (r *run) ack(conn int, s api.Side) {
	r.do(api.Move{Kind: api.MoveAck, Conn: conn, Side: s})
}

func (r *run) reset(conn int, s api.Side, n int) {
	r.do(api.Move{Kind: api.MoveReset, Conn: conn, Side: s, N: n})
}

func (r *run) cut(conn, n int) { r.do(api.Move{Kind: api.MoveCut, Conn: conn, N: n}) }

// exchange: a whole one, and the operator's acknowledgements.
func (r *run) exchange(conn int) {
	if frame := r.send(conn); frame >= 0 {
		if frame = r.give(conn, d, frame); frame >= 0 {
			r.give(conn, h, frame)
		}
	}
	for _, s := range []api.Side{h, d} {
		if r.see(conn, s).Request {
			r.ack(conn, s)
		}
	}
}

// isGood: P18.2 of the script so far.
func (r *run) isGood() []api.Fact {
	r.t.Helper()
	facts := r.w.Facts()
	if got := ghost.Check(r.net, facts); got != (api.Verdict{}) {
		r.t.Fatalf("P18.2: %d moves over %+v: %+v: %+v", r.w.Moves(), r.net, got, facts[:got.At+1])
	}
	return facts
}

// The document's ten examples of the whole.
func TestTenExamples(t *testing.T) {
	set := func(count uint32) api.Net {
		p := seven
		p.Count = count
		return netOf(p)
	}
	up := func(n api.Net) *run {
		r := newRun(t, n)
		for range 3 {
			r.exchange(0)
		}
		return r
	}
	talk := func() *run {
		r := up(set(100))
		r.write(0, h, 0xaa, 0xbb)
		r.write(0, d, 0xcc)
		r.exchange(0)
		return r
	}
	settle := func(r *run) {
		for range 7 {
			r.exchange(0)
		}
	}
	only := set(100)
	only.MaxSession = 1
	for i, r := range []*run{up(set(100)), talk(), talk(), talk(), talk(), talk(), talk(), up(set(3)), newRun(t, set(100)), up(only)} {
		switch i + 1 {
		case 3:
			r.tick(0, d, 10)
			r.ack(0, d)
			r.exchange(0)
			r.exchange(0)
		case 4:
			for range 4 {
				r.give(0, d, 6)
			}
		case 5:
			r.reset(0, h, 0)
			settle(r)
		case 6, 10:
			r.reset(0, d, 0)
			settle(r)
		case 7:
			for frame := range r.w.Frames() {
				for _, s := range []api.Side{h, d} {
					r.do(api.Move{Kind: api.MoveGarble, Side: s, Frame: frame, At: 11 * frame, Word: 0x12345})
				}
			}
		case 8:
			r.exchange(0)
			r.exchange(0)
			r.give(0, d, r.send(0))
		case 9:
			r.cut(0, 2)
			r.give(0, d, r.send(0))
			r.reset(0, d, 0)
			settle(r)
		}
		facts := r.isGood()
		good(t, r.net, facts...)
		if len(facts) < 20 {
			t.Errorf("example %d: too little was tried: %d facts", i+1, len(facts))
		}
	}
}

// steps: of short scripts.
func steps() []func(r *run) {
	last := func(r *run) int { return r.w.Frames() - 1 }
	return []func(r *run){
		func(r *run) { r.send(0) },
		func(r *run) { r.give(0, d, last(r)) },
		func(r *run) { r.give(0, h, last(r)) },
		func(r *run) { r.give(0, d, 0) },
		func(r *run) { r.give(0, h, 1) },
		func(r *run) { r.give(0, d, last(r)-1) },
		func(r *run) { r.give(0, h, last(r)-2) },
		func(r *run) { r.exchange(0) },
		func(r *run) { r.exchange(1) },
		func(r *run) { r.tick(0, h, 1) },
		func(r *run) { r.tick(0, d, 2) },
		func(r *run) { r.ack(0, h); r.ack(0, d) },
		func(r *run) { r.reset(0, h, 0) },
		func(r *run) { r.reset(0, d, 3) },
		func(r *run) { r.cut(0, 2) },
		func(r *run) { r.write(0, h, byte(r.w.Moves()), 1); r.write(0, d, byte(r.w.Moves())) },
	}
}

// tally: what there was to be judged.
type tally struct{ facts, on, latched, taken, acked, sessions, resets int }

func (y *tally) add(facts []api.Fact) {
	y.facts += len(facts)
	for _, f := range facts {
		switch {
		case f.Kind == api.FactOut && f.On:
			y.on++
		case f.Kind == api.FactOut && f.Code != 0:
			y.latched++
		case f.Kind == api.FactTaken:
			y.taken++
		case f.Kind == api.FactAck:
			y.acked++
		case f.Kind == api.FactSession:
			y.sessions++
		case f.Kind == api.FactReset:
			y.resets++
		}
	}
}

func (y tally) atLeast(t *testing.T, least tally) {
	t.Helper()
	if y.facts < least.facts || y.on < least.on || y.latched < least.latched || y.taken < least.taken || y.acked < least.acked || y.sessions < least.sessions || y.resets < least.resets {
		t.Errorf("too little was tried: %+v", y)
	}
}

// Every script of three steps, behind unlike beginnings.
func TestEveryShortScript(t *testing.T) {
	little := api.Param{Code: 7, Out: 2, In: 1, Watch: 2, Count: 4}
	other := api.Param{Code: 9, Out: 1, In: 1, Watch: 3, Count: 4}
	list := steps()
	n := len(list)
	var y tally
	for _, exchanges := range []int{0, 2, 4, 5} {
		for script := range n * n * n {
			r := newRun(t, netOf(little, other))
			for range exchanges {
				r.exchange(0)
			}
			for at, rest := 0, script; at < 3; at, rest = at+1, rest/n {
				list[rest%n](r)
			}
			y.add(r.isGood())
		}
	}
	y.atLeast(t, tally{facts: 300000, on: 20000, latched: 5000, taken: 10000, acked: 100, sessions: 10000, resets: 5000})
}

// net: of all sizes; sessions, numbers and ticks that end soon, and such that don't.
func (c *chance) net() api.Net {
	var list []api.Param
	for i := range 1 + c.below(api.MaxConns) {
		list = append(list, api.Param{Code: uint32(5 + 2*i), Out: 1 + c.below(8), In: 1 + c.below(3), Watch: 1 + c.below(9), Count: uint32(2 + c.below(40))})
	}
	n := netOf(list...)
	n.MaxSession = uint32(1 + c.below(200))
	switch c.below(8) {
	case 0:
		n.Devices[0].Watch++
	case 1:
		// They never come together.
		n.Devices[0].Code = 1000
	}
	return n
}

// late: a frame, most likely one of the last that were sent.
func (c *chance) late(r *run) int {
	n := r.w.Frames()
	if n > 0 && c.below(4) > 0 {
		return n - 1 - c.below(min(n, 8))
	}
	return c.below(n + 1)
}

// mess: an adversary's move.
func (c *chance) mess(r *run) {
	conn, s := c.below(len(r.net.Hosts)), c.side()
	size := r.net.Hosts[conn].Out
	if s == d {
		size = r.net.Devices[conn].In
	}
	switch n := c.below(40); {
	case n < 9:
		r.send(conn)
	case n < 22:
		r.give(conn, s, c.late(r))
	case n < 24:
		r.do(api.Move{Kind: api.MoveGarble, Conn: conn, Side: s, Frame: c.late(r), At: c.below(200), Word: 1<<c.below(32) | uint32(c.below(256))})
	case n < 28:
		r.tick(conn, s, c.below(3))
	case n < 29:
		r.tick(conn, s, []int{r.net.Hosts[conn].Watch, api.MaxTicks}[c.below(2)])
	case n < 32:
		r.ack(conn, s)
	case n < 36:
		r.do(api.Move{Kind: api.MoveWrite, Conn: conn, Side: s, Data: c.bytes(size), Hold: c.below(5) == 0})
	case n < 37 && c.below(6) == 0:
		r.reset(conn, h, 0)
	case n < 38 && c.below(4) == 0:
		r.reset(conn, d, c.below(9))
	case n < 39 && c.below(4) == 0:
		r.cut(conn, c.below(7))
	}
}

// revive: what would say nothing any more is reset now and then.
func (c *chance) revive(r *run) {
	for conn := range r.net.Hosts {
		if r.see(conn, d).State == api.Down && c.below(3) == 0 {
			r.reset(conn, d, 0)
		}
		if r.see(conn, h).State == api.Done && c.below(3) == 0 {
			r.reset(conn, h, 0)
		}
	}
}

// disturbed: a long script, with fair exchanges between.
func (c *chance) disturbed(r *run, rounds int) {
	for range rounds {
		conn := c.below(len(r.net.Hosts))
		for range c.below(8) {
			if c.below(2) == 0 {
				r.write(conn, h, c.bytes(r.net.Hosts[conn].Out)...)
				r.write(conn, d, c.bytes(r.net.Devices[conn].In)...)
			}
			r.exchange(conn)
		}
		for range c.below(14) {
			c.mess(r)
		}
		c.revive(r)
	}
}

// Long scripts of an adversary over nets of one and of several connections.
func TestLongScripts(t *testing.T) {
	c := &chance{at: 27}
	var y tally
	for range 250 {
		r := newRun(t, c.net())
		c.disturbed(r, 50)
		y.add(r.isGood())
	}
	y.atLeast(t, tally{facts: 300000, on: 30000, latched: 30000, taken: 10000, acked: 2000, sessions: 2000, resets: 1000})
	// As many moves as there may be.
	n := netOf(api.Param{Code: 3, Out: 2, In: 1, Watch: 6, Count: 1000}, api.Param{Code: 4, Out: 1, In: 2, Watch: 4, Count: 30})
	n.MaxSession = greatest
	r := newRun(t, n)
	for r.w.Moves() < api.MaxMoves {
		c.disturbed(r, 1)
	}
	r.isGood()
}

// Whole sessions come again, to lives that have not seen them.
func TestReplays(t *testing.T) {
	c := &chance{at: 28}
	var y tally
	for range 60 {
		r := newRun(t, netOf(api.Param{Code: 7, Out: 2, In: 1, Watch: 10, Count: 9}))
		for range 3 {
			for n := range byte(6) {
				r.write(0, h, n, n+1)
				r.write(0, d, n+2)
				r.exchange(0)
			}
			r.reset(0, c.side(), 0)
			s := c.side()
			for frame := range r.w.Frames() {
				r.give(0, s, frame)
				r.ack(0, s)
				if c.below(10) == 0 {
					r.tick(0, s, 5)
				}
			}
		}
		y.add(r.isGood())
	}
	y.atLeast(t, tally{facts: 10000, on: 2000, latched: 500, taken: 500, sessions: 100, resets: 100})
}

// A history as a world tells it, with one fact left out, doubled or changed: what that fact upholds is missed just there.
func TestSpoiltHistories(t *testing.T) {
	c := &chance{at: 29}
	var found counts
	for range 40 {
		r := newRun(t, netOf(api.Param{Code: 7, Out: 2, In: 1, Watch: 4, Count: 30}))
		c.disturbed(r, 5)
		facts := r.isGood()
		facts = facts[:min(len(facts), 120)]
		for i, f := range facts {
			for _, spoilt := range [][]api.Fact{
				slices.Delete(slices.Clone(facts), i, i+1),
				slices.Insert(slices.Clone(facts), i, f),
				slices.Replace(slices.Clone(facts), i, i+1, c.changed(f)),
			} {
				found[judgedAsTwin(t, r.net, spoilt).Rule]++
			}
			for rule, bad := range wrong(f) {
				if got, want := ghost.Check(r.net, slices.Replace(slices.Clone(facts), i, i+1, bad...)), (api.Verdict{Rule: rule, At: i + len(bad) - 1}); got != want {
					t.Fatalf("P18.1: %+v instead of %+v: %+v, not %+v", bad, f, got, want)
				}
				found[rule]++
			}
		}
	}
	for rule, n := range found {
		if n < 30 {
			t.Errorf("too little was tried: rule %d %d times", rule, n)
		}
	}
}

// judgedAsTwin: what the judge says, and the twin as well.
func judgedAsTwin(t *testing.T, n api.Net, facts []api.Fact) api.Verdict {
	t.Helper()
	x := newTwin(n)
	for _, f := range facts {
		x.see(f)
	}
	if got := ghost.Check(n, facts); got != x.said {
		t.Fatalf("P18.1: %+v: %+v, not %+v", facts, got, x.said)
	}
	return x.said
}

// changed: one word of a fact is another.
func (c *chance) changed(f api.Fact) api.Fact {
	f.Data = bytes.Clone(f.Data)
	switch c.below(8) {
	case 0:
		f.Session++
	case 1:
		f.Number += uint32(1 + c.below(9))
	case 2:
		f.Number--
	case 3:
		f.Side = otherSide(f.Side)
	case 4:
		f.On = !f.On
	case 5:
		f.Code = []api.Errno{0, 100, 131}[c.below(3)]
	case 6:
		f.Kind = api.FactKind(1 + c.below(8))
	case 7:
		if len(f.Data) > 0 {
			f.Data[c.below(len(f.Data))] ^= 1
		}
	}
	return f
}

// wrong: what a fact of a good history is never to be; by the rule that it breaks then.
func wrong(f api.Fact) map[int][]api.Fact {
	none, other := f, f
	none.Conn = 1
	list := map[int][]api.Fact{1: {none}}
	other.Data = append(bytes.Clone(f.Data), 1)
	switch {
	case f.Kind == api.FactTaken:
		list[2] = []api.Fact{other}
		list[3] = []api.Fact{f, f}
	case f.Kind == api.FactOut && f.On:
		list[4] = []api.Fact{other}
		told := f
		told.Code = 100
		list[6] = []api.Fact{told}
	case f.Kind == api.FactOut:
		list[5] = []api.Fact{other}
		other.On = true
		list[4] = []api.Fact{other}
	}
	return list
}
