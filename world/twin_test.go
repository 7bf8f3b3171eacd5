package world_test

import (
	"slices"
	"testing"

	"parapet/api"
	"parapet/burst"
	"parapet/device"
	"parapet/host"
	"parapet/mem"
	"parapet/unit"
)

// twin is a world in the chapter's words: lone hosts and devices, a list of frames, a list of facts.
type twin struct {
	net    api.Net
	hosts  []*host.Host
	devs   []*device.Device
	mems   []*mem.Mem
	frames [][]byte
	facts  []api.Fact
	moves  int
}

func newTwin(t *testing.T, n api.Net) *twin {
	t.Helper()
	x := &twin{net: api.Net{Hosts: slices.Clone(n.Hosts), Devices: slices.Clone(n.Devices), MaxSession: n.MaxSession}}
	for i := range n.Hosts {
		h, wrongHost := host.New(n.Hosts[i])
		m, _ := mem.Load(make([]byte, 16))
		d, wrongDevice := device.New(n.Devices[i], m, n.MaxSession)
		if wrongHost != api.OK || wrongDevice != api.OK {
			t.Fatalf("P13.1, P14.1: %+v, %+v: %d, %d", n.Hosts[i], n.Devices[i], wrongHost, wrongDevice)
		}
		x.hosts, x.devs, x.mems = append(x.hosts, h), append(x.devs, d), append(x.mems, m)
	}
	return x
}

// wrong: why a move is refused, in the order of the chapter.
func (x *twin) wrong(m api.Move) api.Errno {
	frame := m.Kind == api.MoveDeliver || m.Kind == api.MoveGarble
	for _, c := range []struct {
		holds func() bool
		e     api.Errno
	}{
		{func() bool { return x.moves == 4096 }, api.ErrFull},
		{func() bool { return !slices.Contains([]api.MoveKind{1, 2, 3, 4, 5, 6, 7, 8}, m.Kind) }, api.ErrMove},
		{func() bool { return m.Conn < 0 || m.Conn > len(x.hosts)-1 }, api.ErrConn},
		{func() bool { return m.Kind != api.MoveSend && m.Kind != api.MoveCut && m.Side != 1 && m.Side != 2 }, api.ErrSide},
		{func() bool { return frame && (m.Frame < 0 || m.Frame > len(x.frames)-1) }, api.ErrFrame},
		{func() bool { return m.Kind == api.MoveGarble && x.turned(m) == nil }, api.ErrBurst},
		{func() bool { return m.Kind == api.MoveTick && (m.N < 0 || m.N > 1<<20) }, api.ErrRange},
		{func() bool { return m.Kind == api.MoveReset && (m.N < 0 || m.N > 0 && m.Side == 1) }, api.ErrRange},
		{func() bool { return m.Kind == api.MoveCut && m.N < 0 }, api.ErrRange},
	} {
		if c.holds() {
			return c.e
		}
	}
	return api.OK
}

// turned: the frame of a garbling, with its bits turned; nil: there is no such burst.
func (x *twin) turned(m api.Move) []byte {
	frame := x.frames[m.Frame]
	pattern, e := burst.Make(len(frame), m.At, m.Word)
	if e != api.OK {
		return nil
	}
	list, _ := burst.Turn(frame, pattern)
	return list
}

func (x *twin) play(m api.Move) (api.Row, api.Errno) {
	if e := x.wrong(m); e != api.OK {
		return api.Row{}, e
	}
	x.moves++
	row := api.Row{Move: m, Sent: -1}
	row.Move.Data = slices.Clone(m.Data)
	h, d := x.hosts[m.Conn], x.devs[m.Conn]
	switch m.Kind {
	case api.MoveSend:
		var frame []byte
		frame, row.Code = h.Send()
		row.Sent = x.keep(m, api.AtHost, frame)
	case api.MoveDeliver:
		row.Code, row.Sent = x.hear(m, slices.Clone(x.frames[m.Frame]))
	case api.MoveGarble:
		row.Code, row.Sent = x.hear(m, x.turned(m))
	case api.MoveCut:
		x.mems[m.Conn].Arm(m.N)
	default:
		row.Code = x.touch(m)
	}
	row.Host, row.Dev = h.See(), d.See()
	for side, shown := range []api.End{h.See(), d.See()} {
		x.add(m, api.Fact{Kind: api.FactOut, Side: api.Side(side + 1), On: shown.On, Code: shown.Latched, Data: shown.Out})
	}
	return row, api.OK
}

// touch: what is done to one end without a frame.
func (x *twin) touch(m api.Move) api.Errno {
	h, d := x.hosts[m.Conn], x.devs[m.Conn]
	calls := map[api.MoveKind][2]func() api.Errno{
		api.MoveWrite: {func() api.Errno { return h.Write(m.Data, m.Hold) }, func() api.Errno { return d.Write(m.Data, m.Hold) }},
		api.MoveTick:  {func() api.Errno { return h.Tick(m.N) }, func() api.Errno { return d.Tick(m.N) }},
		api.MoveAck:   {h.Ack, d.Ack},
		api.MoveReset: {h.Reset, func() api.Errno { return d.Reset(m.N) }},
	}
	e := calls[m.Kind][m.Side-1]()
	switch {
	case m.Kind == api.MoveTick && e == api.OK:
		x.add(m, api.Fact{Kind: api.FactTick, Side: m.Side, Number: uint32(m.N)})
	case m.Kind == api.MoveAck && e == api.OK:
		x.add(m, api.Fact{Kind: api.FactAck, Side: m.Side})
	case m.Kind == api.MoveReset:
		x.add(m, api.Fact{Kind: api.FactReset, Side: m.Side})
	}
	return e
}

// add: a fact of the move's connection.
func (x *twin) add(m api.Move, f api.Fact) {
	f.Conn = m.Conn
	x.facts = append(x.facts, f)
}

// keep: a frame that was sent, if one was.
func (x *twin) keep(m api.Move, s api.Side, frame []byte) int {
	if frame == nil {
		return -1
	}
	x.frames = append(x.frames, frame)
	if u, _ := unit.Decode(frame); u.Kind == api.HostData || u.Kind == api.DevData {
		x.add(m, api.Fact{Kind: api.FactSent, Side: s, Session: u.Session, Number: u.Number, Data: u.Data})
	}
	return len(x.frames) - 1
}

// hear: a frame comes to an end.
func (x *twin) hear(m api.Move, frame []byte) (api.Errno, int) {
	u, _ := unit.Decode(frame)
	if m.Side == api.AtHost {
		e := x.hosts[m.Conn].Receive(frame)
		if e == api.OK {
			x.fresh(m, u)
		}
		return e, -1
	}
	d := x.devs[m.Conn]
	was := d.See()
	answer, e := d.Receive(frame)
	is := d.See()
	if was.State != api.Down && is.State == api.Down {
		x.add(m, api.Fact{Kind: api.FactReset, Side: api.AtDevice})
	}
	if is.Session > 0 && is.Session != was.Session {
		x.add(m, api.Fact{Kind: api.FactSession, Side: api.AtDevice, Session: is.Session})
	}
	// A session that goes on, in which the device has come further.
	if e == api.OK && is.Session == was.Session && (is.State != was.State || is.Number != was.Number) {
		x.fresh(m, u)
	}
	return e, x.keep(m, api.AtDevice, answer)
}

// fresh: a unit that has brought an end on.
func (x *twin) fresh(m api.Move, u api.Unit) {
	x.add(m, api.Fact{Kind: api.FactFresh, Side: m.Side})
	if u.Kind == api.HostData || u.Kind == api.DevData {
		x.add(m, api.Fact{Kind: api.FactTaken, Side: m.Side, Session: u.Session, Number: u.Number, Data: u.Data})
	}
}
