package device

import (
	"parapet/api"
	"parapet/param"
	"parapet/unit"
)

// Receive: a frame; what it answers, and what is wrong.
func (d *Device) Receive(b []byte) ([]byte, api.Errno) {
	if e := d.silent(); e != api.OK {
		return nil, e
	}
	answer, e := d.hear(b)
	// Not of a cut: a device whose power went notes nothing.
	if e != api.OK && e != api.ErrCut {
		d.note(e)
	}
	return answer, e
}

// hear takes a frame that is a unit for this device; what isn't one has no answer.
func (d *Device) hear(b []byte) ([]byte, api.Errno) {
	u, e := unit.Decode(b)
	switch {
	case e != api.OK:
		return nil, e
	case !unit.FromHost(u.Kind):
		return nil, api.ErrKind
	case u.Code != d.set.Code:
		return nil, api.ErrCode
	}
	return d.take(u)
}

// take does what the unit says, if it is one that the state awaits.
func (d *Device) take(u api.Unit) ([]byte, api.Errno) {
	own := u.Session == d.session
	next := own && d.state == api.Running && u.Number > d.number
	switch {
	case u.Kind == api.HostParam:
		return d.wish(u.Data)
	case u.Kind == api.HostEcho && own && (d.state == api.Offered || d.state == api.Agreed):
		return d.echo(u.Data)
	case u.Kind == api.HostStart && own && (d.state == api.Agreed || d.state == api.Running && d.number == 0):
		return d.start(), api.OK
	case u.Kind == api.HostData && next && u.Number < d.set.Count && len(u.Data) == d.set.Out:
		return d.data(u), api.OK
	case u.Kind == api.HostLast && next && u.Number == d.set.Count:
		return d.last(), api.OK
	}
	return d.refuse(api.ErrStale)
}

// wish: the host wants a session. While there is one, the wish may be an old
// one that the channel repeats: it must come again and again to be believed.
func (d *Device) wish(signature []byte) ([]byte, api.Errno) {
	if !d.signed(signature) {
		return d.refuse(api.ErrSignature)
	}
	d.countOdd()
	switch d.state {
	case api.Offered:
		return d.offer(), api.ErrStale
	case api.Agreed, api.Running:
		return d.none(), api.ErrStale
	}
	return d.begin()
}

// begin asks the cell for a new session.
func (d *Device) begin() ([]byte, api.Errno) {
	session, e := d.cell.Next()
	if e == api.ErrExhausted {
		d.latch(e)
		d.leave(api.Done)
		return d.none(), e
	}
	if e != api.OK {
		d.goDown()
		return nil, e
	}
	d.leave(api.Offered)
	d.session = session
	return d.offer(), api.OK
}

// echo: the host agrees to the session; a first one brings the device on.
func (d *Device) echo(signature []byte) ([]byte, api.Errno) {
	if !d.signed(signature) {
		return d.refuse(api.ErrSignature)
	}
	if d.state == api.Offered {
		d.state = api.Agreed
		d.bringOn()
	}
	return d.say(api.Unit{Kind: api.DevAgreed}), api.OK
}

// start: the host begins; a first one brings the device on.
func (d *Device) start() []byte {
	if d.state == api.Agreed {
		d.state = api.Running
		d.valve.Run(true)
		d.bringOn()
	}
	return d.say(api.Unit{Kind: api.DevStarted})
}

// data: a process value has come, and the application's goes back, numbered by
// the device's own count.
func (d *Device) data(u api.Unit) []byte {
	d.number = u.Number
	d.bringOn()
	d.valve.Hold(u.Flags&api.FlagHold != 0)
	// It can't be refused: the unit has as many bytes as the valve.
	d.valve.Take(u.Data)
	d.sent++
	return d.say(api.Unit{Kind: api.DevData, Number: d.sent, Flags: d.flags(), Data: d.value})
}

// last: no number is left; the session and its number stay to be seen.
func (d *Device) last() []byte {
	d.number = d.set.Count
	d.bringOn()
	d.latch(api.ErrExhausted)
	d.sent = d.set.Count
	answer := d.say(api.Unit{Kind: api.DevLast, Number: d.sent})
	d.valve.Run(false)
	d.state = api.Done
	return answer
}

// refuse: the unit is odd.
func (d *Device) refuse(e api.Errno) ([]byte, api.Errno) {
	d.countOdd()
	return d.none(), e
}

// countOdd counts an odd unit against the session, if there is one, and gives
// the session up where that makes too many.
func (d *Device) countOdd() {
	if !d.inSession() {
		return
	}
	d.odd++
	if d.odd < api.ResyncMax {
		return
	}
	if d.state == api.Running {
		d.latch(api.ErrResync)
	}
	d.leave(api.Idle)
}

// signed: are these the bytes of the set's signature?
func (d *Device) signed(signature []byte) bool {
	right, _ := param.Match(d.set, signature)
	return right
}

func (d *Device) offer() []byte {
	signature, _ := param.Signature(d.set)
	return d.say(api.Unit{Kind: api.DevOffer, Data: param.Bytes(signature)})
}

func (d *Device) none() []byte { return d.say(api.Unit{Kind: api.DevNone}) }

// say is the frame of an answer, in the session as it stands.
func (d *Device) say(u api.Unit) []byte {
	u.Code, u.Session = d.set.Code, d.session
	// Each answer is a lawful unit: there is no error.
	frame, _ := unit.Encode(u)
	return frame
}
