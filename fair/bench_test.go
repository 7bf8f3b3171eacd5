package fair_test

import (
	"fmt"
	"math"
	"reflect"
	"slices"
	"testing"

	"parapet/api"
	"parapet/cell"
	"parapet/fair"
	"parapet/mem"
	"parapet/world"
)

const (
	h = api.AtHost
	d = api.AtDevice

	top   = math.MaxInt64
	least = math.MinInt64
)

// seven is the chapter's set, and the document's.
var seven = api.Param{Code: 7, Out: 2, In: 1, Watch: 10, Count: 100}

// netOf: these sets at both ends.
func netOf(sessions uint32, sets ...api.Param) api.Net {
	return api.Net{Hosts: slices.Clone(sets), Devices: slices.Clone(sets), MaxSession: sessions}
}

// counting: the chapter's set with another Count.
func counting(count uint32) api.Param {
	p := seven
	p.Count = count
	return p
}

// The moves.

func write(conn int, s api.Side, data ...byte) api.Move {
	return api.Move{Kind: api.MoveWrite, Conn: conn, Side: s, Data: data}
}

// hold: a write with which the application wants the other end fail-safe.
func hold(conn int, s api.Side, data ...byte) api.Move {
	m := write(conn, s, data...)
	m.Hold = true
	return m
}

func send(conn int) api.Move { return api.Move{Kind: api.MoveSend, Conn: conn} }

func give(conn int, s api.Side, frame int) api.Move {
	return api.Move{Kind: api.MoveDeliver, Conn: conn, Side: s, Frame: frame}
}

func tick(conn int, s api.Side, n int) api.Move {
	return api.Move{Kind: api.MoveTick, Conn: conn, Side: s, N: n}
}

func ack(conn int, s api.Side) api.Move { return api.Move{Kind: api.MoveAck, Conn: conn, Side: s} }

func reset(conn int, s api.Side, n int) api.Move {
	return api.Move{Kind: api.MoveReset, Conn: conn, Side: s, N: n}
}

func cut(conn, n int) api.Move { return api.Move{Kind: api.MoveCut, Conn: conn, N: n} }

// answer is what a call says; n is of Settle alone.
type answer struct {
	n  int
	ok bool
	e  api.Errno
}

// call is one of the calls that play moves.
type call struct {
	name string
	fair func(w *world.World) answer
	// By the chapter's words, move by move.
	byHand func(x hand) answer
}

func exchange(k int) call {
	return call{
		fmt.Sprintf("P19.2: Exchange(%d)", k),
		func(w *world.World) (a answer) { a.ok, a.e = fair.Exchange(w, k); return a },
		func(x hand) (a answer) { a.ok, a.e = x.exchange(k); return a },
	}
}

func settle(k, most int) call {
	return call{
		fmt.Sprintf("P19.4: Settle(%d, %d)", k, most),
		func(w *world.World) (a answer) { a.n, a.ok, a.e = fair.Settle(w, k, most); return a },
		func(x hand) (a answer) { a.n, a.ok, a.e = x.settle(k, most); return a },
	}
}

func talk(k int, down, up []byte) call {
	return call{
		fmt.Sprintf("P19.5: Talk(%d, % x, % x)", k, down, up),
		func(w *world.World) (a answer) { a.ok, a.e = fair.Talk(w, k, down, up); return a },
		func(x hand) (a answer) { a.ok, a.e = x.talk(k, down, up); return a },
	}
}

// bench is a world for the calls, and its like, which is moved by hand.
type bench struct {
	t *testing.T
	w *world.World
	x hand
}

func of(t *testing.T, n api.Net) *bench {
	t.Helper()
	w, e := world.New(n)
	like, _ := world.New(n)
	if e != api.OK {
		t.Fatalf("P17.1: New(%+v): %d", n, e)
	}
	return &bench{t: t, w: w, x: hand{like}}
}

// with: these sets at both ends, and nine sessions.
func with(t *testing.T, sets ...api.Param) *bench {
	t.Helper()
	return of(t, netOf(9, sets...))
}

// do: a move of both worlds, refused or not; R8: what they say of it is the same.
func (b *bench) do(m api.Move) (api.Row, api.Errno) {
	b.t.Helper()
	row, e := b.w.Play(m)
	want, wrong := b.x.Play(m)
	if e != wrong || !reflect.DeepEqual(row, want) {
		b.t.Fatalf("R8: Play(%+v): %+v, %d, and of its like %+v, %d", m, row, e, want, wrong)
	}
	return row, e
}

// play: moves of both that are played.
func (b *bench) play(moves ...api.Move) (row api.Row) {
	b.t.Helper()
	for _, m := range moves {
		var e api.Errno
		if row, e = b.do(m); e != api.OK {
			b.t.Fatalf("P17.2: Play(%+v): %d", m, e)
		}
	}
	return row
}

// asks: the call; it answers, and leaves, what it does by hand.
func (b *bench) asks(c call) answer {
	b.t.Helper()
	got, want := c.fair(b.w), c.byHand(b.x)
	if got != want {
		b.t.Fatalf("%s: %+v, not %+v", c.name, got, want)
	}
	b.near(c.name)
	return got
}

// says: the call, by hand too, and this answer.
func (b *bench) says(c call, want answer) {
	b.t.Helper()
	if got := b.asks(c); got != want {
		b.t.Fatalf("%s: %+v, not %+v: %+v, %+v", c.name, got, want, b.see(0, h), b.see(0, d))
	}
}

// comesTo: the call answers so, and plays just these moves.
func (b *bench) comesTo(c call, want answer, moves ...api.Move) {
	b.t.Helper()
	if got := c.fair(b.w); got != want {
		b.t.Fatalf("%s: %+v, not %+v: %+v, %+v", c.name, got, want, b.see(0, h), b.see(0, d))
	}
	for _, m := range moves {
		if _, e := b.x.Play(m); e != api.OK {
			b.t.Fatalf("P17.2: Play(%+v): %d", m, e)
		}
	}
	b.alike(c.name)
}

// near: all ends look alike, and as many moves were played and frames sent.
func (b *bench) near(behind string) {
	b.t.Helper()
	if b.w.Moves() != b.x.Moves() || b.w.Frames() != b.x.Frames() {
		b.t.Fatalf("%s: %d moves, %d frames, not %d, %d", behind, b.w.Moves(), b.w.Frames(), b.x.Moves(), b.x.Frames())
	}
	for conn := range b.w.Net().Hosts {
		for _, s := range []api.Side{h, d} {
			got, _ := b.w.See(conn, s)
			if want, _ := b.x.See(conn, s); !reflect.DeepEqual(got, want) {
				b.t.Fatalf("%s: the end %d of connection %d is %+v, not %+v", behind, s, conn, got, want)
			}
		}
	}
}

// alike: all that the two worlds tell is the same.
func (b *bench) alike(behind string) {
	b.t.Helper()
	b.near(behind)
	if got, want := b.w.Facts(), b.x.Facts(); !reflect.DeepEqual(got, want) {
		b.t.Fatalf("%s: the facts are %+v, not %+v", behind, got, want)
	}
	for i := range b.w.Frames() {
		got, _ := b.w.Frame(i)
		if want, _ := b.x.Frame(i); !reflect.DeepEqual(got, want) {
			b.t.Fatalf("%s: frame %d is % x, not % x", behind, i, got, want)
		}
	}
	for conn := range b.w.Net().Hosts {
		got, _ := b.w.Memory(conn)
		if want, _ := b.x.Memory(conn); !reflect.DeepEqual(got, want) {
			b.t.Fatalf("%s: the memory of connection %d is % x, not % x", behind, conn, got, want)
		}
	}
	if got, want := b.w.Net(), b.x.Net(); !reflect.DeepEqual(got, want) {
		b.t.Fatalf("%s: the net is %+v, not %+v", behind, got, want)
	}
}

// goesOn: what the worlds keep unseen shows in the rows of further moves.
func (b *bench) goesOn(k int) {
	b.t.Helper()
	for range api.ResyncMax + 2 {
		for _, s := range []api.Side{d, h} {
			row := b.play(send(k))
			if row.Sent >= 0 {
				row = b.play(give(k, s, row.Sent))
			}
			if row.Sent >= 0 {
				b.play(give(k, h, row.Sent))
			}
		}
	}
	b.alike("behind further moves")
}

func (b *bench) see(conn int, s api.Side) api.End {
	b.t.Helper()
	end, e := b.w.See(conn, s)
	if e != api.OK {
		b.t.Fatalf("P17.3: See(%d, %d): %d", conn, s, e)
	}
	return end
}

// left: how many session numbers the device's cell has still to give.
func (b *bench) left(k int) uint32 {
	b.t.Helper()
	held, _ := b.w.Memory(k)
	m, _ := mem.Load(held)
	most := b.w.Net().MaxSession
	c, e := cell.Open(m, most)
	if e != api.OK {
		b.t.Fatalf("P8.1: Open over % x: %d", held, e)
	}
	return most - c.Value()
}

// whole: the three moves of an exchange that is sent and answered next.
func (b *bench) whole(k int) []api.Move {
	frame := b.x.Frames()
	return []api.Move{send(k), give(k, d, frame), give(k, h, frame+1)}
}

// fill: moves of no account, until so many are left.
func (b *bench) fill(left int) {
	b.t.Helper()
	for b.w.Moves() < api.MaxMoves-left {
		b.play(tick(0, h, 0))
	}
}

// up: a connection that comes up as a new one does.
func (b *bench) up(k int) {
	b.t.Helper()
	b.says(settle(k, fair.Bound()), answer{n: 3, ok: true})
}

// talking: the document's examples 1 and 2; eight frames.
func talking(t *testing.T, sets ...api.Param) *bench {
	t.Helper()
	b := with(t, sets...)
	b.up(0)
	b.says(talk(0, []byte{0xaa, 0xbb}, []byte{0xcc}), answer{ok: true})
	return b
}

// Where the frames of talking stand.
const (
	firstWish  = 0
	firstOffer = 1
	firstOK    = 3 // DevAgreed
	firstBegun = 5 // DevStarted
	firstDown  = 6 // HostData
	firstUp    = 7 // DevData
)

// secondLife: the host is reset, and the channel makes it believe in the first session.
func (b *bench) secondLife() {
	b.t.Helper()
	b.play(reset(0, h, 0), give(0, h, firstOffer), give(0, h, firstOK), give(0, h, firstBegun))
}

// goesDown: old wishes come to the device, and its power goes in the session that they begin.
func (b *bench) goesDown() {
	b.t.Helper()
	b.play(cut(0, 0))
	for b.see(0, d).State != api.Down {
		b.play(give(0, d, firstWish))
	}
}

// asking: an end, or both, has a fault; the next exchange makes it ask.
func asking(t *testing.T, sides ...api.Side) *bench {
	t.Helper()
	b := talking(t, seven)
	for _, s := range sides {
		b.play(tick(0, s, seven.Watch))
	}
	return b
}
