package host

import (
	"parapet/api"
	"parapet/param"
	"parapet/unit"
)

// Receive: a frame; what is wrong.
func (h *Host) Receive(b []byte) api.Errno {
	if h == nil {
		return api.ErrNil
	}
	u, e := unit.Decode(b)
	if e == api.OK {
		e = h.refusal(u)
	}
	if e != api.OK {
		h.note(e)
		return e
	}
	h.take(u)
	return api.OK
}

// refusal says why the unit isn't accepted, or OK.
func (h *Host) refusal(u api.Unit) api.Errno {
	switch {
	case !unit.FromDevice(u.Kind):
		return api.ErrKind
	case u.Code != h.set.Code:
		return api.ErrCode
	case h.state == api.Idle:
		return h.refusalOfOffer(u)
	case u.Session != h.session || !h.awaits(u):
		return api.ErrStale
	}
	return api.OK
}

// refusalOfOffer is that of a host that awaits an offer: of a session above all
// that it has accepted, since an offer may be an old one that the channel repeats.
func (h *Host) refusalOfOffer(u api.Unit) api.Errno {
	if u.Kind != api.DevOffer || u.Session <= h.session {
		return api.ErrStale
	}
	if signed, _ := param.Match(h.set, u.Data); !signed {
		return api.ErrSignature
	}
	return api.OK
}

// awaits: does a unit of its session bring it on?
func (h *Host) awaits(u api.Unit) bool {
	next := h.state == api.Running && u.Number > h.number
	switch u.Kind {
	case api.DevAgreed:
		return h.state == api.Offered
	case api.DevStarted:
		return h.state == api.Agreed
	case api.DevData:
		return next && u.Number < h.set.Count && len(u.Data) == h.set.In
	case api.DevLast:
		return next && u.Number == h.set.Count
	}
	return false
}

// take does what an accepted unit says.
func (h *Host) take(u api.Unit) {
	switch u.Kind {
	case api.DevOffer:
		h.state, h.session = api.Offered, u.Session
	case api.DevAgreed:
		h.state = api.Agreed
	case api.DevStarted:
		h.state = api.Running
		h.valve.Run(true)
	case api.DevData, api.DevLast:
		h.number = u.Number
	}
	h.bringOn()
	switch u.Kind {
	case api.DevData:
		h.valve.Hold(u.Flags&api.FlagHold != 0)
		// It can't be refused: the unit has as many bytes as the valve.
		h.valve.Take(u.Data)
	case api.DevLast:
		h.exhaust()
	}
}
