package host

import (
	"parapet/api"
	"parapet/param"
	"parapet/unit"
)

// Send: the next frame.
func (h *Host) Send() ([]byte, api.Errno) {
	if h == nil {
		return nil, api.ErrNil
	}
	if h.state == api.Done {
		return nil, api.ErrDone
	}
	h.countMissed()
	u := h.next()
	u.Code = h.set.Code
	h.waits = true
	// Whatever is next is a lawful unit: there is no error.
	frame, _ := unit.Encode(u)
	return frame, api.OK
}

// countMissed counts a sending that brought nothing fresh against the session,
// if there is one, and gives the session up where that makes too many.
func (h *Host) countMissed() {
	if h.state == api.Idle || !h.waits {
		return
	}
	h.missed++
	if h.missed < api.ResyncMax {
		return
	}
	if h.state == api.Running {
		h.latch(api.ErrResync)
	}
	h.giveUp()
}

// next is what the state has to say.
func (h *Host) next() api.Unit {
	switch h.state {
	case api.Idle:
		// The session that the host knows is over: the wish names none.
		return api.Unit{Kind: api.HostParam, Data: h.signature()}
	case api.Offered:
		return api.Unit{Kind: api.HostEcho, Session: h.session, Data: h.signature()}
	case api.Agreed:
		return api.Unit{Kind: api.HostStart, Session: h.session}
	}
	return h.data()
}

// data is the application's value with the next number, or what is sent in its
// place where the numbers end.
func (h *Host) data() api.Unit {
	h.sent++
	if h.sent == h.set.Count {
		h.exhaust()
		return api.Unit{Kind: api.HostLast, Session: h.session, Number: h.sent}
	}
	return api.Unit{Kind: api.HostData, Session: h.session, Number: h.sent, Flags: h.flags(), Data: h.value}
}

// signature is what the set is known by.
func (h *Host) signature() []byte {
	signature, _ := param.Signature(h.set)
	return param.Bytes(signature)
}
