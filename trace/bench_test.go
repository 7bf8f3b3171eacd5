package trace_test

import (
	"fmt"
	"math"
	"testing"

	"parapet/api"
	"parapet/script"
	"parapet/trace"
)

const (
	h = api.AtHost
	d = api.AtDevice

	top   = math.MaxInt64
	least = math.MinInt64

	// most is the greatest number of 32 bits.
	most = math.MaxUint32
)

// The edges that the document names, and those beside them.
var (
	anyStates  = []api.State{least, -4, -1, 0, api.Idle, api.Offered, api.Agreed, api.Running, api.Done, api.Down, 7, 1<<32 + 4, top}
	anyKinds   = []api.FactKind{least, -8, -1, 0, 1, 2, 3, 4, 5, 6, 7, 8, 9, 1<<32 + 1, top}
	anySides   = []api.Side{least, -1, 0, h, d, 3, 1<<32 + 1, top}
	anyNumbers = []uint32{0, 1, 9, 10, 1<<31 - 1, 1 << 31, most - 1, most}
	anyInts    = []int{least, least + 1, -most - 1, -most, -10, -2, -1, 0, 1, 9, 10, most, most + 1, top - 1, top}
	anyCodes   = []api.Errno{least, -1, api.OK, api.ErrNil, 3, api.ErrExhausted, api.ErrWatchdog, api.ErrResync, api.ErrEmpty, 206, 1 << 32, top}
)

// wantEnd: the chapter's words on End.
func wantEnd(x api.End) string {
	state, known := map[api.State]string{1: "idle", 2: "offered", 3: "agreed", 4: "running", 5: "done", 6: "down"}[x.State]
	if !known {
		state = fmt.Sprintf("?%d", x.State)
	}
	ask := map[bool]string{true: ",ask"}[x.Request]
	out := ",off"
	if x.On {
		out = fmt.Sprintf(",on:%x", x.Out)
	}
	return fmt.Sprintf("%s,%d,%d,%d,%d,%d%s%s", state, x.Session, x.Number, x.Sent, x.Since, x.Latched, ask, out)
}

// wantLine: the chapter's words on Line.
func wantLine(r api.Row) (string, api.Errno) {
	line, e := script.Move(r.Move)
	if e != api.OK {
		return "", e
	}
	sent := ""
	if r.Sent >= 0 {
		sent = fmt.Sprintf(" sent %d", r.Sent)
	}
	return fmt.Sprintf("%s -> %d%s h:%s d:%s", line, r.Code, sent, wantEnd(r.Host), wantEnd(r.Dev)), api.OK
}

// wantText: the chapter's words on Text.
func wantText(rows []api.Row) (string, int, api.Errno) {
	text := ""
	for i, r := range rows {
		line, e := wantLine(r)
		if e != api.OK {
			return "", i, e
		}
		text += line + "\n"
	}
	return text, 0, api.OK
}

// wantFact: the chapter's words on Fact.
func wantFact(f api.Fact) string {
	word, known := map[api.FactKind]string{1: "sent", 2: "taken", 3: "session", 4: "fresh", 5: "tick", 6: "ack", 7: "reset", 8: "out"}[f.Kind]
	if !known {
		word = "?"
	}
	side, known := map[api.Side]string{1: "h", 2: "d"}[f.Side]
	if !known {
		side = "?"
	}
	line := fmt.Sprintf("%s %d %s", word, f.Conn, side)
	switch word {
	case "sent", "taken":
		line += fmt.Sprintf(" %d %d x%x", f.Session, f.Number, f.Data)
	case "session":
		line += fmt.Sprintf(" %d", f.Session)
	case "tick":
		line += fmt.Sprintf(" %d", f.Number)
	case "out":
		line += fmt.Sprintf(" %s %d x%x", map[bool]string{false: "off", true: "on"}[f.On], f.Code, f.Data)
	}
	return line
}

func saysEnd(t *testing.T, x api.End) {
	t.Helper()
	if got, want := trace.End(x), wantEnd(x); got != want {
		t.Fatalf("P21.1: End(%+v): %q, not %q", x, got, want)
	}
}

func saysLine(t *testing.T, r api.Row) {
	t.Helper()
	line, e := trace.Line(r)
	if want, wrong := wantLine(r); line != want || e != wrong {
		t.Fatalf("P21.2: Line(%+v): %q, %d, not %q, %d", r, line, e, want, wrong)
	}
}

func saysText(t *testing.T, rows []api.Row) {
	t.Helper()
	text, at, e := trace.Text(rows)
	if want, place, wrong := wantText(rows); text != want || at != place || e != wrong {
		t.Fatalf("P21.2: Text(%+v): %q, %d, %d, not %q, %d, %d", rows, text, at, e, want, place, wrong)
	}
}

func saysFact(t *testing.T, f api.Fact) {
	t.Helper()
	if got, want := trace.Fact(f), wantFact(f); got != want {
		t.Fatalf("P21.3: Fact(%+v): %q, not %q", f, got, want)
	}
}

// chance gives numbers that look like chance, the same in each run.
type chance struct{ at uint64 }

func (c *chance) next() uint64 {
	c.at += 0x9e3779b97f4a7c15
	x := c.at
	x = (x ^ x>>30) * 0xbf58476d1ce4e5b9
	x = (x ^ x>>27) * 0x94d049bb133111eb
	return x ^ x>>31
}

func (c *chance) below(n int) int { return int(c.next() % uint64(n)) }

func (c *chance) flip() bool { return c.below(2) == 0 }

// one of a list.
func one[V any](c *chance, list []V) V { return list[c.below(len(list))] }

func (c *chance) bytes(n int) []byte {
	b := make([]byte, n)
	for i := range b {
		b[i] = one(c, []byte{0, 0xff, byte(c.next())})
	}
	return b
}

func (c *chance) end() api.End {
	return api.End{
		State: one(c, anyStates), Session: one(c, anyNumbers), Number: one(c, anyNumbers), Sent: one(c, anyNumbers),
		Since: one(c, anyInts), Latched: one(c, anyCodes), Request: c.flip(), On: c.flip(), Out: c.bytes(c.below(12)),
	}
}

// goodMoves: one of each kind, and the edges of a line.
var goodMoves = []api.Move{
	{Kind: api.MoveWrite, Conn: 1, Side: d, Data: []byte{0xab, 0}, Hold: true},
	{Kind: api.MoveWrite, Side: h},
	{Kind: api.MoveSend, Conn: most},
	{Kind: api.MoveDeliver, Conn: 2, Side: h, Frame: 20},
	{Kind: api.MoveGarble, Side: d, Frame: 4, At: 3, Word: most},
	{Kind: api.MoveTick, Side: h, N: 5},
	{Kind: api.MoveAck, Conn: 7, Side: d},
	{Kind: api.MoveReset, Side: d, N: most},
	{Kind: api.MoveCut, Conn: 3, N: 2},
}

// badMoves: such as have no line.
var badMoves = []api.Move{
	{},
	{Kind: api.MoveSend, Conn: -1},
	{Kind: api.MoveTick, Side: h, N: most + 1},
	{Kind: api.MoveAck, Side: 3},
	{Kind: api.MoveWrite, Side: h, Data: make([]byte, 9)},
	{Kind: 9, Side: d},
}

// row: one whose move has a line.
func (c *chance) row() api.Row {
	return api.Row{
		Move: one(c, goodMoves), Code: one(c, anyCodes),
		Sent: one(c, anyInts), Host: c.end(), Dev: c.end(),
	}
}

func (c *chance) rows(n int) []api.Row {
	var list []api.Row
	for range n {
		list = append(list, c.row())
	}
	return list
}

// bad: a row whose move has no line, and which has all else.
func (c *chance) bad() api.Row {
	r := c.row()
	r.Move = one(c, badMoves)
	return r
}

func (c *chance) fact() api.Fact {
	return api.Fact{
		Kind: one(c, anyKinds), Conn: one(c, anyInts), Side: one(c, anySides),
		Session: one(c, anyNumbers), Number: one(c, anyNumbers), On: c.flip(), Code: one(c, anyCodes), Data: c.bytes(c.below(12)),
	}
}
