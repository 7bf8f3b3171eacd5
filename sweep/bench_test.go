package sweep_test

import (
	"math"
	"slices"
	"testing"

	"parapet/api"
	"parapet/ghost"
	"parapet/sweep"
	"parapet/unit"
	"parapet/world"
)

const (
	h = api.AtHost
	d = api.AtDevice

	top   = math.MaxInt64
	least = math.MinInt64
)

// seven is the document's set.
var seven = api.Param{Code: 7, Out: 2, In: 1, Watch: 10, Count: 100}

// netOf: these sets at both ends.
func netOf(sets ...api.Param) api.Net {
	return api.Net{Hosts: slices.Clone(sets), Devices: slices.Clone(sets), MaxSession: 9}
}

// one: a connection of the document's set.
func one() api.Net { return netOf(seven) }

// many: as many connections as a net may have, or one more, or fewer.
func many(conns int) api.Net {
	var sets []api.Param
	for i := range conns {
		sets = append(sets, api.Param{Code: uint32(7 + i), Out: 1 + i%8, In: 1 + i%3, Watch: 1 + i, Count: uint32(3 + i)})
	}
	return netOf(sets...)
}

// The moves.

func write(conn int, s api.Side, data ...byte) api.Move {
	return api.Move{Kind: api.MoveWrite, Conn: conn, Side: s, Data: data}
}

func send(conn int) api.Move { return api.Move{Kind: api.MoveSend, Conn: conn} }

func give(conn int, s api.Side, frame int) api.Move {
	return api.Move{Kind: api.MoveDeliver, Conn: conn, Side: s, Frame: frame}
}

func garble(conn int, s api.Side, frame, at int, word uint32) api.Move {
	return api.Move{Kind: api.MoveGarble, Conn: conn, Side: s, Frame: frame, At: at, Word: word}
}

func tick(conn int, s api.Side, n int) api.Move {
	return api.Move{Kind: api.MoveTick, Conn: conn, Side: s, N: n}
}

func ack(conn int, s api.Side) api.Move { return api.Move{Kind: api.MoveAck, Conn: conn, Side: s} }

func reset(conn int, s api.Side, n int) api.Move {
	return api.Move{Kind: api.MoveReset, Conn: conn, Side: s, N: n}
}

func cut(conn, n int) api.Move { return api.Move{Kind: api.MoveCut, Conn: conn, N: n} }

// exchanges: so many of a connection, while the first frame of them is this one.
func exchanges(conn, frame, n int) (list []api.Move) {
	for range n {
		list = append(list, send(conn), give(conn, d, frame), give(conn, h, frame+1))
		frame += 2
	}
	return list
}

// flowing: connection 0 of the document's set comes up, and a value goes each way; frames 0 to 7.
func flowing() []api.Move {
	list := exchanges(0, 0, 3)
	list = append(list, write(0, h, 0xaa, 0xbb), write(0, d, 0xcc))
	return append(list, exchanges(0, 6, 1)...)
}

// refused: a move that no world plays.
var refused = []api.Move{
	{}, {Kind: 9}, {Kind: -1}, {Kind: api.MoveAck}, {Kind: api.MoveSend, Conn: -1}, {Kind: api.MoveSend, Conn: 8},
	give(0, d, 4000), give(0, h, -1), garble(0, h, 4000, 0, 1), tick(0, h, -1), tick(0, d, api.MaxTicks+1),
	reset(0, h, 1), reset(0, d, -1), cut(0, -1), {Kind: api.MoveTick, Side: 3},
}

// times: the same move so often.
func times(n int, m api.Move) []api.Move { return slices.Repeat([]api.Move{m}, n) }

// lists: every list of so many places below n, in the order of a counter's digits.
func lists(n, depth int, yield func(places []int)) {
	places := make([]int, depth)
	for {
		yield(places)
		i := depth - 1
		for i >= 0 && places[i] == n-1 {
			places[i] = 0
			i--
		}
		if i < 0 {
			return
		}
		places[i]++
	}
}

// wantTally: the chapter's words, one world after the other; what was taken and how the ends look, by the rows alone.
func wantTally(t *testing.T, n api.Net, first, alphabet []api.Move, depth int) (y api.Tally) {
	t.Helper()
	lists(len(alphabet), depth, func(places []int) {
		moves := slices.Clone(first)
		for _, i := range places {
			moves = append(moves, alphabet[i])
		}
		one := wantOne(t, n, moves)
		y.Runs += one.Runs
		y.Bad += one.Bad
		y.Taken += one.Taken
		y.Latched += one.Latched
		y.On += one.On
	})
	return y
}

// wantOne: the tally of one script.
func wantOne(t *testing.T, n api.Net, moves []api.Move) api.Tally {
	t.Helper()
	w, e := world.New(n)
	if e != api.OK {
		t.Fatalf("P17.1: New(%+v): %d", n, e)
	}
	y := api.Tally{Runs: 1}
	last := make([]api.Row, len(n.Hosts))
	for _, m := range moves {
		row, e := w.Play(m)
		if e != api.OK {
			continue
		}
		last[m.Conn] = row
		if tookData(w, row) {
			y.Taken++
		}
	}
	for _, row := range last {
		for _, end := range []api.End{row.Host, row.Dev} {
			if end.Latched != api.OK {
				y.Latched++
			}
			if end.On {
				y.On++
			}
		}
	}
	judge := ghost.New(n)
	for _, f := range w.Facts() {
		judge.See(f)
	}
	if judge.Verdict().Rule != 0 {
		y.Bad++
	}
	return y
}

// tookData: was a data unit delivered by this row's move, and accepted?
func tookData(w *world.World, row api.Row) bool {
	if row.Move.Kind != api.MoveDeliver || row.Code != api.OK {
		return false
	}
	frame, _ := w.Frame(row.Move.Frame)
	u, _ := unit.Decode(frame)
	return u.Kind == api.HostData || u.Kind == api.DevData
}

// comesTo: Explore answers this tally.
func comesTo(t *testing.T, n api.Net, first, alphabet []api.Move, depth int, want api.Tally) {
	t.Helper()
	got, e := sweep.Explore(n, first, alphabet, depth)
	if e != api.OK || got != want {
		t.Fatalf("P22.2: Explore(%+v, %+v, %+v, %d): %+v, %d, not %+v", n, first, alphabet, depth, got, e, want)
	}
}

// holds: Explore answers what the worlds come to that are played one after the other.
func holds(t *testing.T, n api.Net, first, alphabet []api.Move, depth int) api.Tally {
	t.Helper()
	want := wantTally(t, n, first, alphabet, depth)
	if want.Bad != 0 {
		t.Fatalf("P22.3: behind %+v, out of %+v, %d moves over %+v: %d histories are bad", first, alphabet, depth, n, want.Bad)
	}
	comesTo(t, n, first, alphabet, depth, want)
	return want
}

// refuses: Explore answers this error, and a zero tally beside it.
func refuses(t *testing.T, what string, n api.Net, first, alphabet []api.Move, depth int, want api.Errno) {
	t.Helper()
	got, e := sweep.Explore(n, first, alphabet, depth)
	if e != want || got != (api.Tally{}) {
		t.Errorf("P22.2, R2, R3: Explore of %s: %+v, %d, not a zero tally and %d", what, got, e, want)
	}
}

// chance is a row of numbers that are the same each time.
type chance struct{ at uint64 }

func (c *chance) below(n int) int {
	c.at = c.at*6364136223846793005 + 1442695040888963407
	return int(c.at >> 33 % uint64(n))
}

func (c *chance) side() api.Side { return api.Side(1 + c.below(2)) }

func (c *chance) bytes(n int) []byte {
	b := make([]byte, n)
	for i := range b {
		b[i] = byte(c.below(256))
	}
	return b
}
