package host_test

import (
	"bytes"
	"testing"

	"parapet/api"
	"parapet/host"
	"parapet/unit"
)

// place is a session with a number in it.
type place struct{ session, number uint32 }

func (a place) above(b place) bool {
	return a.session > b.session || a.session == b.session && a.number > b.number
}

// history is what one life of a host has accepted and sent; it goes by no model.
type history struct {
	t       *testing.T
	p       api.Param
	session uint32 // the greatest that was accepted
	taken   place  // the last data unit or last one that was accepted
	value   []byte // of that
	sent    map[place]bool
	steps   map[api.Kind]uint32 // by kind: the session of the last handshake unit that was accepted
}

// tally is how much was tried.
type tally struct{ lives, sessions, accepted, sent, shown int }

func newHistory(t *testing.T, p api.Param) *history {
	return &history{t: t, p: p, sent: map[place]bool{}, steps: map[api.Kind]uint32{}}
}

// receive: a frame comes, and what is accepted must rise.
func (y *history) receive(h *host.Host, frame []byte, n *tally) {
	u, _ := unit.Decode(frame)
	ahead := h.See()
	e := h.Receive(frame)
	now := h.See()
	if e != api.OK {
		if !sameEnd(now, ahead) {
			y.t.Fatalf("P14.3: %d changes %+v into %+v", e, ahead, now)
		}
		return
	}
	switch u.Kind {
	case api.DevOffer:
		if u.Session <= y.session || now.Session != u.Session {
			y.t.Fatalf("P14.5: session %d is accepted behind session %d: %+v", u.Session, y.session, now)
		}
		y.session = u.Session
		n.sessions++
	case api.DevAgreed, api.DevStarted:
		if u.Session != y.session || u.Session <= y.steps[u.Kind] {
			y.t.Fatalf("P14.5: kind %d of session %d is accepted, behind that of session %d, in session %d", u.Kind, u.Session, y.steps[u.Kind], y.session)
		}
		y.steps[u.Kind] = u.Session
	case api.DevData, api.DevLast:
		at := place{u.Session, u.Number}
		if !at.above(y.taken) || at != (place{now.Session, now.Number}) || u.Session != y.session {
			y.t.Fatalf("P14.5: %v is accepted behind %v, in session %d; shown is %+v", at, y.taken, y.session, now)
		}
		y.taken, y.value = at, u.Data
		n.accepted++
	default:
		y.t.Fatalf("P14.3: kind %d is accepted", u.Kind)
	}
}

// send: no number may be sent twice in a session.
func (y *history) send(h *host.Host, n *tally) {
	frame, e := h.Send()
	if e == api.ErrDone {
		return
	}
	u, bad := unit.Decode(frame)
	if e != api.OK || bad != api.OK || !unit.FromHost(u.Kind) || u.Code != y.p.Code {
		y.t.Fatalf("P14.2: Send: % x, %d", frame, e)
	}
	if u.Kind != api.HostData && u.Kind != api.HostLast {
		return
	}
	at := place{u.Session, u.Number}
	if y.sent[at] || u.Session != y.session || u.Number > y.p.Count || (u.Number == y.p.Count) != (u.Kind == api.HostLast) {
		y.t.Fatalf("P14.5: %+v is sent, in session %d; again: %v", u, y.session, y.sent[at])
	}
	y.sent[at] = true
	n.sent++
}

// look: the output is on only while it is Running with nothing latched, and is
// then the last value that was accepted; else it is 0.
func (y *history) look(h *host.Host, n *tally) {
	now := h.See()
	if now.On && (now.State != api.Running || now.Latched != api.OK || !bytes.Equal(now.Out, y.value)) {
		y.t.Fatalf("P14.5: the output is on: %+v; accepted was % x", now, y.value)
	}
	if !now.On && !bytes.Equal(now.Out, make([]byte, y.p.In)) {
		y.t.Fatalf("P14.5: the output is off: %+v", now)
	}
	if now.On {
		n.shown++
	}
}

func TestHistories(t *testing.T) {
	c := &chance{at: 144}
	n := &tally{}
	for range 80 {
		p := api.Param{Code: 7, Out: 1, In: 1 + c.below(3), Watch: 1 + c.below(20), Count: uint32(2 + c.below(60))}
		h, _ := host.New(p)
		y := newHistory(t, p)
		// All frames that ever came stay there to come again, also in a later life.
		var bag [][]byte
		for range 1500 {
			switch c.below(24) {
			case 0:
				h.Tick(c.below(p.Watch + 1))
			case 1, 2, 3:
				h.Ack()
			case 4:
				h.Write([]byte{byte(c.below(256))}, c.below(2) == 0)
			case 5:
				if h.See().State == api.Done || c.below(8) == 0 {
					h.Reset()
					y = newHistory(t, p)
					n.lives++
				}
			case 6, 7, 8, 9, 10, 11:
				y.send(h, n)
			default:
				frame := c.frame(h, p, bag)
				bag = append(bag, frame)
				y.receive(h, frame, n)
			}
			y.look(h, n)
		}
	}
	if n.lives < 200 || n.sessions < 1000 || n.accepted < 3000 || n.sent < 3000 || n.shown < 3000 {
		t.Errorf("too little was tried: %+v", *n)
	}
}

// frame: one that is right for where the host stands, one that isn't, or one of
// those that came earlier, again.
func (c *chance) frame(h *host.Host, p api.Param, bag [][]byte) []byte {
	if len(bag) > 0 && c.below(3) == 0 {
		return bag[c.below(len(bag))]
	}
	s := c.onwards(p, h.See())
	if s.call != hear || c.below(5) == 0 {
		s = c.stray(p)
	}
	return s.frame(p, h.See())
}

// All frames of a session, again, behind each later moment: none is accepted
// twice within a life.
func TestReplay(t *testing.T) {
	b := fresh(t, plain)
	y, n := newHistory(t, plain), &tally{}
	var bag [][]byte
	for s := uint32(1); s <= 20; s++ {
		units := []api.Unit{offer(plain, s), agreed(s), started(s), back(s, 1, byte(s)), back(s, 2, 3), back(s, 9, 4)}
		for i, u := range units {
			frame := b.frame(u)
			bag = append(bag, frame)
			y.receive(b.h, frame, n)
			y.look(b.h, n)
			was := b.h.See()
			if i%2 == 0 {
				y.send(b.h, n)
				was = b.h.See()
			}
			for _, old := range bag {
				if e := b.h.Receive(old); e != api.ErrStale {
					t.Fatalf("P14.5: % x again: %d", old, e)
				}
			}
			b.see(was)
		}
		for range api.ResyncMax + 1 {
			y.send(b.h, n)
		}
		if got := b.h.See().State; got != api.Idle {
			t.Fatalf("P14.2: behind %d sendings: state %d", api.ResyncMax+1, got)
		}
		for _, old := range bag {
			if e := b.h.Receive(old); e != api.ErrStale {
				t.Fatalf("P14.5: while it is Idle, % x again: %d", old, e)
			}
		}
	}
	if n.sessions != 20 || n.accepted != 60 {
		t.Errorf("P14.5: %d sessions and %d data units were accepted, not 20 and 60", n.sessions, n.accepted)
	}
}
