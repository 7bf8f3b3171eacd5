package world

import (
	"bytes"
	"math"

	"parapet/api"
)

// noFrame is what a row has as Sent where nothing was put into the bag.
const noFrame = -1

// Play: one move.
func (w *World) Play(m api.Move) (api.Row, api.Errno) {
	if e := w.refusal(m); e != api.OK {
		return api.Row{}, e
	}
	w.moves++
	m.Data = bytes.Clone(m.Data)
	code, sent := w.act(m)
	w.noteOutputs(m.Conn)
	c := w.conns[m.Conn]
	return api.Row{Move: m, Code: code, Sent: sent, Host: c.host.See(), Dev: c.dev.See()}, api.OK
}

// refusal says why a move can't be played, or OK.
func (w *World) refusal(m api.Move) api.Errno {
	switch {
	case w.none():
		return api.ErrNil
	case w.moves >= api.MaxMoves:
		return api.ErrFull
	case m.Kind < api.MoveWrite || m.Kind > api.MoveCut:
		return api.ErrMove
	case !w.has(m.Conn):
		return api.ErrConn
	case usesSide(m.Kind) && !isSide(m.Side):
		return api.ErrSide
	}
	return w.refusalByKind(m)
}

// usesSide: of the others it is settled which end does it.
func usesSide(k api.MoveKind) bool { return k != api.MoveSend && k != api.MoveCut }

// refusalByKind is that of a move whose kind, connection and side there are.
func (w *World) refusalByKind(m api.Move) api.Errno {
	switch m.Kind {
	case api.MoveDeliver, api.MoveGarble:
		_, e := w.carried(m)
		return e
	case api.MoveTick, api.MoveReset, api.MoveCut:
		if m.N < 0 || m.N > greatestN(m) {
			return api.ErrRange
		}
	}
	return api.OK
}

// greatestN is the greatest N with which such a move is played.
func greatestN(m api.Move) int {
	switch {
	case m.Kind == api.MoveTick:
		return api.MaxTicks
	case m.Kind == api.MoveReset && m.Side == api.AtHost:
		// A host has no memory whose power could go again.
		return 0
	}
	return math.MaxInt
}

// carried is what a delivery brings: a copy out of the bag, whole or garbled.
func (w *World) carried(m api.Move) ([]byte, api.Errno) {
	if m.Kind == api.MoveGarble {
		return w.frames.Garbled(m.Frame, m.At, m.Word)
	}
	return w.frames.Get(m.Frame)
}

// act does what a lawful move says; it answers the Code and the Sent of its row.
func (w *World) act(m api.Move) (api.Errno, int) {
	c := w.conns[m.Conn]
	switch m.Kind {
	case api.MoveSend:
		return w.send(m.Conn)
	case api.MoveDeliver, api.MoveGarble:
		return w.deliver(m)
	case api.MoveWrite:
		return c.at(m.Side).Write(m.Data, m.Hold), noFrame
	case api.MoveTick:
		e := c.at(m.Side).Tick(m.N)
		w.noteIf(e, api.Fact{Kind: api.FactTick, Conn: m.Conn, Side: m.Side, Number: uint32(m.N)})
		return e, noFrame
	case api.MoveAck:
		e := c.at(m.Side).Ack()
		w.noteIf(e, api.Fact{Kind: api.FactAck, Conn: m.Conn, Side: m.Side})
		return e, noFrame
	case api.MoveReset:
		w.note(api.Fact{Kind: api.FactReset, Conn: m.Conn, Side: m.Side})
		return c.reset(m), noFrame
	}
	return c.memory.Arm(m.N), noFrame
}

// reset begins a new life of one end.
func (c conn) reset(m api.Move) api.Errno {
	if m.Side == api.AtHost {
		return c.host.Reset()
	}
	return c.dev.Reset(m.N)
}

func (w *World) send(k int) (api.Errno, int) {
	frame, e := w.conns[k].host.Send()
	return e, w.put(k, api.AtHost, frame)
}

func (w *World) deliver(m api.Move) (api.Errno, int) {
	// The refusal has looked: there is such a frame.
	frame, _ := w.carried(m)
	if m.Side == api.AtHost {
		return w.toHost(m.Conn, frame), noFrame
	}
	return w.toDevice(m.Conn, frame)
}

func (w *World) toHost(k int, frame []byte) api.Errno {
	e := w.conns[k].host.Receive(frame)
	if e == api.OK {
		w.noteFresh(k, api.AtHost, frame)
	}
	return e
}

func (w *World) toDevice(k int, frame []byte) (api.Errno, int) {
	d := w.conns[k].dev
	ahead := d.See()
	answer, e := d.Receive(frame)
	w.noteChange(k, ahead, d.See())
	if e == api.OK && bringsOn(frame, ahead.State) {
		w.noteFresh(k, api.AtDevice, frame)
	}
	// Also beside an error there may be an answer.
	return e, w.put(k, api.AtDevice, answer)
}

// put brings what an end has sent, if anything, into the bag.
func (w *World) put(k int, s api.Side, frame []byte) int {
	if len(frame) == 0 {
		return noFrame
	}
	w.noteData(api.FactSent, k, s, frame)
	// There is room: a bag takes as many frames as there may be moves.
	i, _ := w.frames.Put(frame)
	return i
}
