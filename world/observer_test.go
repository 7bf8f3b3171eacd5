package world_test

import (
	"bytes"
	"slices"
	"testing"

	"parapet/api"
	"parapet/unit"
	"parapet/world"
)

// key names a data unit of one end.
type key struct{ session, number uint32 }

func (a key) below(b key) bool {
	return a.session < b.session || a.session == b.session && a.number < b.number
}

// What an end that has had a fault still wants, ahead of its output.
const (
	wantsNothing = iota
	wantsFresh
	wantsAck
)

// watched is what an observer knows of an end.
type watched struct {
	side  api.Side
	watch int
	count uint32
	size  int
	// How it looks, and how it looked ahead of the move.
	is, was api.End
	// Since something fresh came.
	ticks int
	wants int
	// The last one accepted: of a host in this life, of a device ever.
	last key
	// Of the last data unit accepted in this life: nil, if there is none.
	value        []byte
	valueSession uint32
	// What this end has sent ever, and in this life.
	sent  map[key][]string
	lived map[key]bool
}

// observer sees moves, rows and frames, and holds against them what the document promises of every script. It knows nothing of facts.
type observer struct {
	t     *testing.T
	w     *world.World
	net   api.Net
	conns [][2]*watched
	// The greatest session of each device.
	begun []uint32
	// How much was to be seen.
	on, taken, latched, acked, sessions, done, down int
}

func observe(t *testing.T, w *world.World) *observer {
	t.Helper()
	o := &observer{t: t, w: w, net: w.Net()}
	for i := range o.net.Hosts {
		a, b := o.net.Hosts[i], o.net.Devices[i]
		o.conns = append(o.conns, [2]*watched{
			{side: h, watch: a.Watch, count: a.Count, size: a.In, sent: map[key][]string{}, lived: map[key]bool{}},
			{side: d, watch: b.Watch, count: b.Count, size: b.Out, sent: map[key][]string{}, lived: map[key]bool{}},
		})
		for _, x := range o.conns[i] {
			x.is, _ = w.See(i, x.side)
			x.was = x.is
		}
	}
	o.begun = make([]uint32, len(o.conns))
	return o
}

// see: a move that was played, and its row.
func (o *observer) see(m api.Move, row api.Row) {
	o.t.Helper()
	o.others(m)
	c := o.conns[m.Conn]
	c[0].was, c[0].is = c[0].is, row.Host
	c[1].was, c[1].is = c[1].is, row.Dev
	concerned := m.Side
	switch m.Kind {
	case api.MoveWrite, api.MoveCut, api.MoveGarble:
		concerned = 0
	case api.MoveSend:
		concerned = api.AtHost
		o.sentBy(c[0], row)
	case api.MoveDeliver:
		o.came(m, row)
	case api.MoveTick:
		o.ticked(c[m.Side-1], m, row)
	case api.MoveAck:
		o.acknowledged(c[m.Side-1], m, row)
	case api.MoveReset:
		c[m.Side-1].forget()
	}
	for _, x := range c {
		if x.side != concerned && !sameEnd(x.is, x.was) {
			o.t.Fatalf("P10: %+v changes the end %d: %+v, behind %+v", m, x.side, x.is, x.was)
		}
		o.faulted(x, m)
		o.holdOutput(x, m)
	}
}

// others: the ends of all other connections are as they were.
func (o *observer) others(m api.Move) {
	o.t.Helper()
	for i, c := range o.conns {
		for _, x := range c {
			if got, e := o.w.See(i, x.side); i != m.Conn && (e != api.OK || !sameEnd(got, x.is)) {
				o.t.Fatalf("P10: %+v changes the end %d of connection %d: %+v, behind %+v", m, x.side, i, got, x.is)
			}
		}
	}
}

// forget: a new life.
func (x *watched) forget() {
	x.ticks, x.wants, x.value, x.valueSession = 0, wantsNothing, nil, 0
	clear(x.lived)
	if x.side == h {
		x.last = key{}
	}
}

// sentBy: a frame that an end has put into the bag, if it has.
func (o *observer) sentBy(x *watched, row api.Row) {
	o.t.Helper()
	if row.Sent < 0 {
		return
	}
	u := o.unitOf(row.Sent)
	at := key{u.Session, u.Number}
	switch u.Kind {
	case api.HostData, api.DevData:
		x.sent[at] = append(x.sent[at], string(u.Data))
		if u.Number >= x.count {
			o.t.Fatalf("P8: a data unit %+v at the Count %d", u, x.count)
		}
	case api.HostLast, api.DevLast:
		o.holdDone(x, u)
	default:
		return
	}
	if x.lived[at] || x.side == d && len(x.sent[at]) > 1 {
		o.t.Fatalf("P8: the number %d of session %d is sent twice", u.Number, u.Session)
	}
	x.lived[at] = true
}

// holdDone: the last unit was sent or accepted.
func (o *observer) holdDone(x *watched, u api.Unit) {
	o.t.Helper()
	o.done++
	want := x.was.Latched
	if want == api.OK {
		want = api.ErrExhausted
	}
	if u.Number != x.count || x.is.State != api.Done || x.is.On || x.is.Latched != want {
		o.t.Fatalf("P8: behind %+v: %+v, behind %+v", u, x.is, x.was)
	}
}

func (o *observer) unitOf(i int) api.Unit {
	o.t.Helper()
	frame, e := o.w.Frame(i)
	u, wrong := unit.Decode(frame)
	if e != api.OK || wrong != api.OK {
		o.t.Fatalf("P17.3: Frame(%d): % x, %d, %d", i, frame, e, wrong)
	}
	return u
}

// came: a frame has come to an end.
func (o *observer) came(m api.Move, row api.Row) {
	o.t.Helper()
	x, other, code := o.conns[m.Conn][m.Side-1], o.conns[m.Conn][2-m.Side], o.net.Hosts[m.Conn].Code
	if m.Side == d {
		code = o.net.Devices[m.Conn].Code
	}
	u := o.unitOf(m.Frame)
	if (unit.FromHost(u.Kind) != (m.Side == d) || u.Code != code) && (row.Code == api.OK || row.Sent >= 0 || !sameEnd(x.is, x.was)) {
		o.t.Fatalf("P10: a frame that isn't for the end, %+v: %+v", u, row)
	}
	if m.Side == d {
		o.lifeOf(m, x)
	}
	if row.Code == api.OK {
		o.accepted(x, other, u)
	}
	if m.Side == d {
		o.sentBy(x, row)
	}
}

// lifeOf: what a delivery did to the device's life.
func (o *observer) lifeOf(m api.Move, x *watched) {
	o.t.Helper()
	if x.is.State == api.Down && x.was.State != api.Down {
		o.down++
		x.forget()
	}
	if s := x.is.Session; s != x.was.Session && s != 0 {
		o.sessions++
		if s <= o.begun[m.Conn] || s > o.net.MaxSession {
			o.t.Fatalf("P7: the session %d behind %d, of at most %d", s, o.begun[m.Conn], o.net.MaxSession)
		}
		o.begun[m.Conn] = s
	}
}

// accepted: a unit that the end has accepted.
func (o *observer) accepted(x, other *watched, u api.Unit) {
	o.t.Helper()
	fresh := x.side == h || u.Kind != api.HostParam && (x.is.State != x.was.State || x.is.Number != x.was.Number)
	if fresh {
		x.ticks = 0
		if x.wants == wantsFresh {
			x.wants = wantsAck
		}
	}
	at := key{u.Session, u.Number}
	if u.Number == 0 {
		return
	}
	if !x.last.below(at) || at.session != x.is.Session {
		o.t.Fatalf("P3, P4: the end %d accepts %+v behind %+v, in session %d", x.side, at, x.last, x.is.Session)
	}
	x.last = at
	if u.Kind == api.HostLast || u.Kind == api.DevLast {
		o.holdDone(x, u)
		return
	}
	o.taken++
	if !slices.Contains(other.sent[at], string(u.Data)) {
		o.t.Fatalf("P3, P4: the end %d accepts %+v, which the other hasn't sent", x.side, u)
	}
	x.value, x.valueSession = bytes.Clone(u.Data), u.Session
}

func (o *observer) ticked(x *watched, m api.Move, row api.Row) {
	if row.Code != api.OK {
		return
	}
	if x.ticks < x.watch && x.ticks+m.N >= x.watch {
		x.wants = wantsFresh
	}
	x.ticks += m.N
}

func (o *observer) acknowledged(x *watched, m api.Move, row api.Row) {
	o.t.Helper()
	if row.Code != api.OK {
		return
	}
	o.acked++
	if x.wants != wantsAck || x.was.Latched == api.OK || !x.was.Request || x.was.State != api.Running {
		o.t.Fatalf("P5: %+v is taken, behind %+v", m, x.was)
	}
	x.wants = wantsNothing
	// The value of then doesn't come out again.
	x.value = nil
}

// faulted: whether the move has brought a fault, and that nothing else ends one.
func (o *observer) faulted(x *watched, m api.Move) {
	o.t.Helper()
	born := m.Kind == api.MoveReset && m.Side == x.side || x.is.State == api.Down
	if x.was.Latched != api.OK && x.is.Latched != x.was.Latched && !born && (m.Kind != api.MoveAck || m.Side != x.side) {
		o.t.Fatalf("P5: %+v ends a latched fault: %+v, behind %+v", m, x.is, x.was)
	}
	gone := x.was.State == api.Running && x.is.State != api.Running && !born
	if x.is.Latched != api.OK {
		o.latched++
	}
	if gone && x.is.Latched == api.OK {
		o.t.Fatalf("P5: %+v ends a session without a fault: %+v, behind %+v", m, x.is, x.was)
	}
	if gone || x.was.Latched == api.OK && x.is.Latched != api.OK {
		x.wants = wantsFresh
	}
}

// holdOutput: fail-safe, or what was accepted, with nothing wrong.
func (o *observer) holdOutput(x *watched, m api.Move) {
	o.t.Helper()
	if x.ticks >= x.watch && (x.is.On || x.is.Latched == api.OK) {
		o.t.Fatalf("P5: behind %d ticks of %d: %+v", x.ticks, x.watch, x.is)
	}
	if !x.is.On {
		if !bytes.Equal(x.is.Out, make([]byte, x.size)) {
			o.t.Fatalf("P3, P4: not on, and no fail-safe value: %+v", x.is)
		}
		return
	}
	o.on++
	if x.wants != wantsNothing || x.is.Latched != api.OK || x.is.State != api.Running {
		o.t.Fatalf("P5: on behind %+v, though it wants %d: %+v", m, x.wants, x.is)
	}
	if x.value == nil || !bytes.Equal(x.is.Out, x.value) || x.valueSession != x.is.Session {
		o.t.Fatalf("P3, P4: on with % x, not % x of session %d: %+v", x.is.Out, x.value, x.valueSession, x.is)
	}
}
