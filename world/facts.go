package world

import (
	"parapet/api"
	"parapet/unit"
)

func (w *World) note(f api.Fact) { w.facts = append(w.facts, f) }

// noteIf notes what only a call that was answered OK has brought about.
func (w *World) noteIf(e api.Errno, f api.Fact) {
	if e == api.OK {
		w.note(f)
	}
}

// noteOutputs: what both ends show behind a move.
func (w *World) noteOutputs(k int) {
	for _, s := range [...]api.Side{api.AtHost, api.AtDevice} {
		shown := w.conns[k].at(s).See()
		w.note(api.Fact{Kind: api.FactOut, Conn: k, Side: s, On: shown.On, Code: shown.Latched, Data: shown.Out})
	}
}

// noteData: a frame was sent or taken; only of data units that is a fact.
func (w *World) noteData(kind api.FactKind, k int, s api.Side, frame []byte) {
	u, _ := unit.Decode(frame)
	if u.Kind == api.HostData || u.Kind == api.DevData {
		w.note(api.Fact{Kind: kind, Conn: k, Side: s, Session: u.Session, Number: u.Number, Data: u.Data})
	}
}

// noteFresh: a frame was accepted, and has brought the end on.
func (w *World) noteFresh(k int, s api.Side, frame []byte) {
	w.note(api.Fact{Kind: api.FactFresh, Conn: k, Side: s})
	w.noteData(api.FactTaken, k, s, frame)
}

// noteChange: what a delivery did to the device's life, however it was answered.
func (w *World) noteChange(k int, ahead, behind api.End) {
	if behind.State == api.Down && ahead.State != api.Down {
		w.note(api.Fact{Kind: api.FactReset, Conn: k, Side: api.AtDevice})
	}
	if behind.Session != ahead.Session && behind.Session != 0 {
		w.note(api.Fact{Kind: api.FactSession, Conn: k, Side: api.AtDevice, Session: behind.Session})
	}
}

// bringsOn: is a frame that the device accepts in this state fresh? A wish isn't, nor what comes again.
func bringsOn(frame []byte, ahead api.State) bool {
	u, _ := unit.Decode(frame)
	switch u.Kind {
	case api.HostParam:
		return false
	case api.HostEcho:
		return ahead == api.Offered
	case api.HostStart:
		return ahead == api.Agreed
	}
	return true
}
