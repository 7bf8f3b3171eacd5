package world_test

import (
	"bytes"
	"fmt"
	"math"
	"slices"
	"testing"

	"parapet/api"
	"parapet/unit"
	"parapet/world"
)

const (
	greatest = math.MaxUint32
	top      = math.MaxInt64
	least    = math.MinInt64
	// nothing is Sent of a row behind which the bag is as it was.
	nothing = -1
)

// seven is the chapter's set, and the document's.
var seven = api.Param{Code: 7, Out: 2, In: 1, Watch: 10, Count: 100}

// sets: as many as a net takes, and unlike.
var sets = [api.MaxConns]api.Param{
	seven,
	{Code: 9, Out: 1, In: 8, Watch: 3, Count: 5},
	{Code: greatest, Out: 8, In: 2, Watch: 1, Count: 4},
	{Code: 1, Out: 3, In: 3, Watch: 20, Count: greatest},
	{Code: 1 << 24, Out: 2, In: 1, Watch: 5, Count: 2},
	{Code: 1 << 16, Out: 1, In: 1, Watch: api.MaxTicks, Count: 50},
	{Code: 1 << 31, Out: 4, In: 5, Watch: 7, Count: 3},
	{Code: 256, Out: 2, In: 1, Watch: 10, Count: 9},
}

// netOf: these sets at both ends.
func netOf(sessions uint32, sets ...api.Param) api.Net {
	return api.Net{Hosts: slices.Clone(sets), Devices: slices.Clone(sets), MaxSession: sessions}
}

// bench is a world, and a twin that is told the same.
type bench struct {
	t *testing.T
	w *world.World
	x *twin
}

// of: a world of this net, at its beginning.
func of(t *testing.T, n api.Net) *bench {
	t.Helper()
	w, e := world.New(n)
	if w == nil || e != api.OK {
		t.Fatalf("P17.1: New(%+v): %v, %d", n, w, e)
	}
	return &bench{t: t, w: w, x: newTwin(t, n)}
}

// with: these sets at both ends, and nine sessions.
func with(t *testing.T, sets ...api.Param) *bench {
	t.Helper()
	return of(t, netOf(9, sets...))
}

// play: the move, held against what the twin says comes of it.
func (k *bench) play(m api.Move) (api.Row, api.Errno) {
	k.t.Helper()
	want, wrong := k.x.play(m)
	row, e := k.w.Play(m)
	if e != wrong || !sameRow(row, want) {
		k.t.Fatalf("P17.2: Play(%+v): %+v, %d, not %+v, %d", m, row, e, want, wrong)
	}
	return row, e
}

// plays: a move that isn't refused, with this Code and Sent in its row.
func (k *bench) plays(m api.Move, code api.Errno, sent int) api.Row {
	k.t.Helper()
	row, e := k.play(m)
	if e != api.OK || row.Code != code || row.Sent != sent {
		k.t.Fatalf("P17.2: Play(%+v): %d, the Code %d, Sent %d, not 0, %d, %d", m, e, row.Code, row.Sent, code, sent)
	}
	return row
}

// refuses: a move that is, and that changes nothing.
func (k *bench) refuses(m api.Move, want api.Errno) {
	k.t.Helper()
	row, e := k.play(m)
	if e != want || !sameRow(row, api.Row{}) {
		k.t.Fatalf("P17.2, R3: Play(%+v): %+v, %d, not a zero row and %d", m, row, e, want)
	}
}

// adds: a move that is played so, and the facts that it adds.
func (k *bench) adds(m api.Move, code api.Errno, sent int, facts ...api.Fact) api.Row {
	k.t.Helper()
	ahead := len(k.w.Facts())
	row := k.plays(m, code, sent)
	if got := k.w.Facts()[ahead:]; !slices.EqualFunc(got, facts, sameFact) {
		k.t.Fatalf("P17.2: Play(%+v) adds the facts %+v, not %+v", m, got, facts)
	}
	return row
}

// see: how an end looks, by See.
func (k *bench) see(conn int, s api.Side) api.End {
	k.t.Helper()
	shown, e := k.w.See(conn, s)
	if e != api.OK {
		k.t.Fatalf("P17.3: See(%d, %d): %d", conn, s, e)
	}
	return shown
}

// looks: how an end shows itself.
func (k *bench) looks(conn int, s api.Side, want api.End) {
	k.t.Helper()
	if got := k.see(conn, s); !sameEnd(got, want) {
		k.t.Fatalf("P17.3: See(%d, %d): %+v, not %+v", conn, s, got, want)
	}
}

// ends: the ends of all connections are as the twin's, and the counts too.
func (k *bench) ends() {
	k.t.Helper()
	for conn := range k.x.hosts {
		k.looks(conn, api.AtHost, k.x.hosts[conn].See())
		k.looks(conn, api.AtDevice, k.x.devs[conn].See())
		if got, e := k.w.Memory(conn); e != api.OK || !bytes.Equal(got, k.x.mems[conn].Bytes()) {
			k.t.Fatalf("P17.3: Memory(%d): % x, %d, not % x", conn, got, e, k.x.mems[conn].Bytes())
		}
	}
	if k.w.Moves() != k.x.moves || k.w.Frames() != len(k.x.frames) {
		k.t.Fatalf("P17.3: %d moves, %d frames, not %d, %d", k.w.Moves(), k.w.Frames(), k.x.moves, len(k.x.frames))
	}
}

// holds: the whole is as the twin; twice, since asking changes nothing.
func (k *bench) holds() {
	k.t.Helper()
	for range 2 {
		k.ends()
		for i, want := range k.x.frames {
			if got, e := k.w.Frame(i); e != api.OK || !bytes.Equal(got, want) {
				k.t.Fatalf("P17.3: Frame(%d): % x, %d, not % x", i, got, e, want)
			}
		}
		if got := k.w.Facts(); !slices.EqualFunc(got, k.x.facts, sameFact) {
			k.t.Fatalf("P17.3: Facts: %+v, not %+v", got, k.x.facts)
		}
		if got := k.w.Net(); !sameNet(got, k.x.net) {
			k.t.Fatalf("P17.3: Net: %+v, not %+v", got, k.x.net)
		}
	}
}

// snapshot: all that a world tells, as a text.
func snapshot(w *world.World) string {
	net := w.Net()
	told := fmt.Sprint(net, w.Moves(), w.Frames(), w.Facts())
	for conn := range net.Hosts {
		h, _ := w.See(conn, api.AtHost)
		d, _ := w.See(conn, api.AtDevice)
		m, _ := w.Memory(conn)
		told += fmt.Sprint(h, d, m)
	}
	for i := range w.Frames() {
		frame, _ := w.Frame(i)
		told += fmt.Sprint(frame)
	}
	return told
}

func sameEnd(a, b api.End) bool {
	return a.State == b.State && a.Session == b.Session && a.Number == b.Number && a.Sent == b.Sent &&
		a.Since == b.Since && a.Latched == b.Latched && a.Request == b.Request && a.On == b.On && bytes.Equal(a.Out, b.Out)
}

func sameMove(a, b api.Move) bool {
	return a.Kind == b.Kind && a.Conn == b.Conn && a.Side == b.Side && a.Frame == b.Frame && a.At == b.At &&
		a.Word == b.Word && a.N == b.N && a.Hold == b.Hold && bytes.Equal(a.Data, b.Data)
}

func sameRow(a, b api.Row) bool {
	return sameMove(a.Move, b.Move) && a.Code == b.Code && a.Sent == b.Sent && sameEnd(a.Host, b.Host) && sameEnd(a.Dev, b.Dev)
}

func sameFact(a, b api.Fact) bool {
	return a.Kind == b.Kind && a.Conn == b.Conn && a.Side == b.Side && a.Session == b.Session && a.Number == b.Number &&
		a.On == b.On && a.Code == b.Code && bytes.Equal(a.Data, b.Data)
}

func sameNet(a, b api.Net) bool {
	return slices.Equal(a.Hosts, b.Hosts) && slices.Equal(a.Devices, b.Devices) && a.MaxSession == b.MaxSession
}

// The moves.

func write(conn int, s api.Side, hold bool, data ...byte) api.Move {
	return api.Move{Kind: api.MoveWrite, Conn: conn, Side: s, Hold: hold, Data: data}
}

func send(conn int) api.Move { return api.Move{Kind: api.MoveSend, Conn: conn} }

func give(conn int, s api.Side, frame int) api.Move {
	return api.Move{Kind: api.MoveDeliver, Conn: conn, Side: s, Frame: frame}
}

func garble(conn int, s api.Side, frame, at int, word uint32) api.Move {
	return api.Move{Kind: api.MoveGarble, Conn: conn, Side: s, Frame: frame, At: at, Word: word}
}

func tick(conn int, s api.Side, n int) api.Move {
	return api.Move{Kind: api.MoveTick, Conn: conn, Side: s, N: n}
}

func ack(conn int, s api.Side) api.Move { return api.Move{Kind: api.MoveAck, Conn: conn, Side: s} }

func reset(conn int, s api.Side, n int) api.Move {
	return api.Move{Kind: api.MoveReset, Conn: conn, Side: s, N: n}
}

func cut(conn, n int) api.Move { return api.Move{Kind: api.MoveCut, Conn: conn, N: n} }

// The facts, of connection 0.

func sentFact(s api.Side, session, number uint32, data ...byte) api.Fact {
	return api.Fact{Kind: api.FactSent, Side: s, Session: session, Number: number, Data: data}
}

func takenFact(s api.Side, session, number uint32, data ...byte) api.Fact {
	return api.Fact{Kind: api.FactTaken, Side: s, Session: session, Number: number, Data: data}
}

func sessionFact(session uint32) api.Fact {
	return api.Fact{Kind: api.FactSession, Side: api.AtDevice, Session: session}
}

func plainFact(kind api.FactKind, s api.Side) api.Fact { return api.Fact{Kind: kind, Side: s} }

func tickFact(s api.Side, n uint32) api.Fact {
	return api.Fact{Kind: api.FactTick, Side: s, Number: n}
}

// off: an output that is fail-safe, with what is latched.
func off(s api.Side, code api.Errno, data ...byte) api.Fact {
	return api.Fact{Kind: api.FactOut, Side: s, Code: code, Data: data}
}

// on: one that is a process value.
func on(s api.Side, data ...byte) api.Fact {
	return api.Fact{Kind: api.FactOut, Side: s, On: true, Data: data}
}

// exchange: the host sends, the device receives that and answers, the host receives the answer;
// then the operator acknowledges wherever it is asked for. Has it brought the host something?
func (k *bench) exchange(conn int) bool {
	k.t.Helper()
	row, _ := k.play(send(conn))
	if row.Sent < 0 {
		return false
	}
	row, _ = k.play(give(conn, api.AtDevice, row.Sent))
	if row.Sent < 0 {
		return false
	}
	row, _ = k.play(give(conn, api.AtHost, row.Sent))
	code := row.Code
	for _, s := range []api.Side{api.AtHost, api.AtDevice} {
		if k.see(conn, s).Request {
			k.plays(ack(conn, s), api.OK, nothing)
		}
	}
	return code == api.OK
}

func (k *bench) isUp(conn int) bool {
	h, d := k.see(conn, api.AtHost), k.see(conn, api.AtDevice)
	return h.State == api.Running && d.State == api.Running && h.Session == d.Session && h.Latched == api.OK && d.Latched == api.OK
}

// settles: exchanges until it is up; behind so many it is.
func (k *bench) settles(conn, want int) {
	k.t.Helper()
	for n := range want {
		if k.isUp(conn) {
			k.t.Fatalf("P9: connection %d is up behind %d exchanges, not %d", conn, n, want)
		}
		k.exchange(conn)
	}
	if !k.isUp(conn) {
		k.t.Fatalf("P9: connection %d isn't up behind %d exchanges: %+v, %+v", conn, want, k.see(conn, api.AtHost), k.see(conn, api.AtDevice))
	}
}

// talks: both applications write, and an exchange makes that the other end's output.
func (k *bench) talks(conn int, down, up []byte) {
	k.t.Helper()
	k.plays(write(conn, api.AtHost, false, down...), api.OK, nothing)
	k.plays(write(conn, api.AtDevice, false, up...), api.OK, nothing)
	k.exchange(conn)
	h, d := k.see(conn, api.AtHost), k.see(conn, api.AtDevice)
	if !h.On || !d.On || !bytes.Equal(h.Out, up) || !bytes.Equal(d.Out, down) {
		k.t.Fatalf("P9: behind a talk of % x and % x: %+v, %+v", down, up, h, d)
	}
}

// lastFrame: the number of the frame that was sent last.
func (k *bench) lastFrame() int { return k.w.Frames() - 1 }

// unitOf: the unit of a frame.
func (k *bench) unitOf(i int) api.Unit {
	k.t.Helper()
	frame, e := k.w.Frame(i)
	if e != api.OK {
		k.t.Fatalf("P17.3: Frame(%d): %d", i, e)
	}
	u, e := unit.Decode(frame)
	if e != api.OK {
		k.t.Fatalf("P4.4: Decode(% x): %d", frame, e)
	}
	return u
}

// value: n bytes, beginning so.
func value(n int, first byte) []byte {
	b := make([]byte, n)
	for i := range b {
		b[i] = first + byte(i)
	}
	return b
}
