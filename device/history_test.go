package device_test

import (
	"bytes"
	"testing"

	"parapet/api"
	"parapet/device"
	"parapet/mem"
	"parapet/unit"
)

// history is all that was accepted over one memory, by whichever device; it
// goes by no model.
type history struct {
	t        *testing.T
	session  uint32
	number   uint32
	begun    uint32 // the greatest session that was begun
	accepted int
	sessions int
	shown    int
	bag      [][]byte
}

// receive: a frame comes, and what was accepted must rise.
func (h *history) receive(d *device.Device, frame []byte) {
	u, _ := unit.Decode(frame)
	_, e := d.Receive(frame)
	now := d.See()
	if e != api.OK {
		return
	}
	switch u.Kind {
	case api.HostParam:
		if now.Session <= h.begun {
			h.t.Fatalf("P13.6: session %d begins behind session %d", now.Session, h.begun)
		}
		h.begun = now.Session
		h.sessions++
	case api.HostData, api.HostLast:
		if u.Session < h.session || u.Session == h.session && u.Number <= h.number {
			h.t.Fatalf("P13.6: (%d, %d) is accepted behind (%d, %d)", u.Session, u.Number, h.session, h.number)
		}
		if u.Session != now.Session || u.Number != now.Number {
			h.t.Fatalf("P13.6: (%d, %d) is accepted, and shown is (%d, %d)", u.Session, u.Number, now.Session, now.Number)
		}
		h.session, h.number = u.Session, u.Number
		h.accepted++
		if now.On && !bytes.Equal(now.Out, u.Data) {
			h.t.Fatalf("P13.6: % x was accepted, and % x comes out", u.Data, now.Out)
		}
	}
}

// look: the output is on only while it is Running with nothing latched, and else 0.
func (h *history) look(d *device.Device, p api.Param) {
	now := d.See()
	if now.On && (now.State != api.Running || now.Latched != api.OK) {
		h.t.Fatalf("P13.6: the output is on: %+v", now)
	}
	if !now.On && !bytes.Equal(now.Out, make([]byte, p.Out)) {
		h.t.Fatalf("P13.6: the output is off: %+v", now)
	}
	if now.On {
		h.shown++
	}
}

// send: a frame that is right for where the device stands, or one of those
// that came earlier, again.
func (h *history) send(c *chance, p api.Param, now api.End) []byte {
	if len(h.bag) > 0 && c.below(3) == 0 {
		return h.bag[c.below(len(h.bag))]
	}
	s := c.onwards(p, now)
	if c.below(5) == 0 {
		s = c.stray(p)
	}
	if s.call != hear {
		return nil
	}
	frame := s.frame(p, now)
	h.bag = append(h.bag, frame)
	return frame
}

func TestHistories(t *testing.T) {
	c := &chance{at: 136}
	all := &history{}
	for i := range 60 {
		p := api.Param{Code: 7, Out: 1 + c.below(3), In: 1, Watch: 1 + c.below(20), Count: uint32(2 + c.below(40))}
		m, _ := mem.New(10 + i%3)
		h := &history{t: t}
		d, _ := device.New(p, m, greatest)
		for range 1000 {
			switch c.below(40) {
			case 0:
				d.Reset(c.below(2) * c.below(14))
			case 1:
				m.Arm(c.below(14))
			case 2:
				// Another device takes its place; the power may go in that, too.
				m.On()
				if c.below(2) == 0 {
					m.Arm(c.below(8))
				}
				if next, e := device.New(p, m, greatest); e == api.OK {
					d = next
				} else {
					d.Reset(0)
				}
			case 3, 4:
				d.Tick(c.below(p.Watch + 1))
			case 5, 6, 7:
				d.Ack()
			case 8:
				d.Write([]byte{byte(c.below(256))}, c.below(2) == 0)
			default:
				if d.See().State == api.Down {
					d.Reset(c.below(3) * c.below(5))
				}
				h.receive(d, h.send(c, p, d.See()))
			}
			h.look(d, p)
		}
		all.accepted += h.accepted
		all.sessions += h.sessions
		all.shown += h.shown
	}
	if all.accepted < 3000 || all.sessions < 1000 || all.shown < 2000 {
		t.Errorf("too little was tried: %d accepted, %d sessions, %d times on", all.accepted, all.sessions, all.shown)
	}
}

// All frames of a session, again, behind each later moment: none is accepted twice.
func TestReplay(t *testing.T) {
	b := fresh(t, plain)
	h := &history{t: t}
	var bag [][]byte
	for s := uint32(1); s <= 5; s++ {
		units := []api.Unit{wish(plain), echo(plain, s), start(s), data(s, 1, 1, 2), data(s, 2, 3, 4), last(s, 100)}
		for _, u := range units {
			h.receive(b.d, b.frame(u))
			bag = append(bag, b.frame(u))
			h.look(b.d, plain)
		}
		if now := b.d.See(); now.State != api.Done || now.Session != s {
			t.Fatalf("P13.3: behind session %d: %+v", s, now)
		}
		for _, frame := range bag {
			// Not the wishes: each of them begins a session while it is Done.
			if u, _ := unit.Decode(frame); u.Kind != api.HostParam {
				h.receive(b.d, frame)
				h.look(b.d, plain)
			}
		}
		if s%2 == 0 {
			b.reset(0, api.OK)
		}
	}
	if h.accepted != 15 {
		t.Errorf("P13.6: %d data units and last ones were accepted, not 15", h.accepted)
	}
}
