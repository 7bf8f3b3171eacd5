package host_test

import (
	"bytes"
	"testing"

	"parapet/api"
	"parapet/burst"
	"parapet/device"
	"parapet/mem"
	"parapet/unit"
)

// line is a host and a device with one set, and every frame that either has sent.
type line struct {
	*bench
	m    *mem.Mem
	d    *device.Device
	down [][]byte
	up   [][]byte
}

func newLine(t *testing.T, p api.Param, sessions uint32) *line {
	t.Helper()
	m, _ := mem.New(16)
	d, e := device.New(p, m, sessions)
	if e != api.OK {
		t.Fatalf("P13.1: New: %d", e)
	}
	return &line{bench: fresh(t, p), m: m, d: d}
}

// put: the host sends.
func (l *line) put() []byte {
	frame, e := l.h.Send()
	if e == api.OK {
		l.down = append(l.down, frame)
	}
	return frame
}

// give: a frame comes to the device.
func (l *line) give(frame []byte) []byte {
	answer, _ := l.d.Receive(frame)
	if len(answer) > 0 {
		l.up = append(l.up, answer)
	}
	return answer
}

// exchange: the host sends, the device answers, and both are acknowledged where they ask.
func (l *line) exchange() api.Errno {
	e := l.h.Receive(l.give(l.put()))
	if l.h.See().Request {
		l.h.Ack()
	}
	if l.d.See().Request {
		l.d.Ack()
	}
	return e
}

// isUp: both are Running in one session, with nothing latched.
func (l *line) isUp() bool {
	h, d := l.h.See(), l.d.See()
	return h.State == api.Running && d.State == api.Running && h.Session == d.Session && h.Latched == api.OK && d.Latched == api.OK
}

// settle: exchanges until both are up, at most so many.
func (l *line) settle(most int) int {
	for i := range most {
		if l.isUp() {
			return i
		}
		l.exchange()
	}
	return most
}

// holdUp: just so many exchanges bring both up, in this session.
func (l *line) holdUp(exchanges int, session uint32) {
	l.t.Helper()
	if got := l.settle(7); got != exchanges || !l.isUp() || l.h.See().Session != session {
		l.t.Fatalf("P9: %d exchanges, not %d: host %+v, device %+v", got, exchanges, l.h.See(), l.d.See())
	}
}

// talk: both applications write, and an exchange makes that the other end's output.
func (l *line) talk(down, up []byte) bool {
	l.h.Write(down, false)
	l.d.Write(up, false)
	e := l.exchange()
	h, d := l.h.See(), l.d.See()
	return e == api.OK && h.On && d.On && bytes.Equal(h.Out, up) && bytes.Equal(d.Out, down)
}

// talking: the document's examples 1 and 2.
func talking(t *testing.T, p api.Param, sessions uint32) *line {
	t.Helper()
	l := newLine(t, p, sessions)
	l.holdUp(3, 1)
	if l.h.See().On || l.d.See().On {
		t.Fatalf("an output is on: host %+v, device %+v", l.h.See(), l.d.See())
	}
	if !l.talk([]byte{0xaa, 0xbb}, []byte{0xcc}) {
		t.Fatalf("P9: an exchange: host %+v, device %+v", l.h.See(), l.d.See())
	}
	l.see(api.End{State: api.Running, Session: 1, Number: 1, Sent: 1, On: true, Out: []byte{0xcc}})
	return l
}

func TestTalk(t *testing.T) {
	l := talking(t, plain, 9)
	for n := uint32(2); n < plain.Count; n++ {
		if v := byte(n); !l.talk([]byte{v, v + 1}, []byte{v + 2}) {
			t.Fatalf("P9: number %d: host %+v, device %+v", n, l.h.See(), l.d.See())
		}
		l.see(api.End{State: api.Running, Session: 1, Number: n, Sent: n, On: true, Out: []byte{byte(n) + 2}})
	}
	l.log(0)
	if _, total := l.d.Log(); total != 0 {
		t.Errorf("the device noted %d", total)
	}
}

// A hold of the one makes the other fail-safe, from the next exchange on.
func TestTalkAndHold(t *testing.T) {
	l := talking(t, plain, 9)
	l.h.Write([]byte{1, 2}, true)
	l.exchange()
	if h, d := l.h.See(), l.d.See(); !h.On || d.On {
		t.Errorf("the host's hold: host %+v, device %+v", h, d)
	}
	l.h.Write([]byte{1, 2}, false)
	l.d.Write([]byte{3}, true)
	l.exchange()
	if h, d := l.h.See(), l.d.See(); h.On || !d.On {
		t.Errorf("the device's hold: host %+v, device %+v", h, d)
	}
	if !l.talk([]byte{1, 2}, []byte{3}) {
		t.Errorf("no hold: host %+v, device %+v", l.h.See(), l.d.See())
	}
}

// The document's example 3, at the host's end.
func TestTalkAndWatchdog(t *testing.T) {
	l := talking(t, plain, 9)
	l.tick(9, api.OK)
	l.tick(1, api.OK)
	l.see(api.End{State: api.Running, Session: 1, Number: 1, Sent: 1, Since: 10, Latched: api.ErrWatchdog})
	l.ack(api.ErrRequest)
	l.hearBytes(l.give(l.put()), api.OK)
	l.see(api.End{State: api.Running, Session: 1, Number: 2, Sent: 2, Latched: api.ErrWatchdog, Request: true})
	l.ack(api.OK)
	l.see(api.End{State: api.Running, Session: 1, Number: 2, Sent: 2})
	l.hearBytes(l.give(l.put()), api.OK)
	l.see(api.End{State: api.Running, Session: 1, Number: 3, Sent: 3, On: true, Out: []byte{0xcc}})
}

// Example 4, at the host's end: an answer that comes again, as often as it
// likes, brings nothing: a host counts what it sends.
func TestTalkAgain(t *testing.T) {
	l := talking(t, plain, 9)
	for i := range 3 * api.ResyncMax {
		for _, frame := range l.up {
			l.hearBytes(frame, api.ErrStale)
		}
		l.see(api.End{State: api.Running, Session: 1, Number: 1, Sent: 1, On: true, Out: []byte{0xcc}})
		l.log((i+1)*len(l.up), record((i+1)*len(l.up), api.ErrStale, 1, 1))
	}
}

// Examples 5 and 6.
func TestTalkBehindAReset(t *testing.T) {
	l := talking(t, plain, 9)
	l.reset()
	l.see(api.End{State: api.Idle})
	l.holdUp(6, 2)
	if !l.talk([]byte{1, 2}, []byte{3}) {
		t.Errorf("P9: behind a reset of the host: %+v, device %+v", l.h.See(), l.d.See())
	}
	l = talking(t, plain, 9)
	l.d.Reset(0)
	l.holdUp(7, 2)
	// The host gave up while it was Running.
	if log, _ := l.h.Log(); len(log) == 0 || log[len(log)-1].Code != api.ErrResync {
		t.Errorf("P14.2: behind a reset of the device: %v", log)
	}
	if !l.talk([]byte{1, 2}, []byte{3}) {
		t.Errorf("P9: behind a reset of the device: %+v, device %+v", l.h.See(), l.d.See())
	}
	// The host alone goes on in its session, when the device was reset ahead of it.
	l = newLine(t, plain, 9)
	l.exchange()
	l.d.Reset(0)
	l.holdUp(7, 2)
	l.log(4, record(4, api.ErrStale, 1, 0))
}

// Example 7: bursts of up to 32 bits, and another's frame.
func TestTalkGarbled(t *testing.T) {
	l := talking(t, plain, 9)
	answer := l.give(l.put())
	was := l.h.See()
	for _, word := range []uint32{1, 3, 5, 0x80000001, 0xffffffff, 0xdeadbeef} {
		for at := range 8 * len(answer) {
			pattern, e := burst.Make(len(answer), at, word)
			if e != api.OK {
				continue
			}
			garbled, _ := burst.Turn(answer, pattern)
			l.hearBytes(garbled, api.ErrCheck)
		}
	}
	l.see(was)
	u, _ := unit.Decode(answer)
	u.Code = 8
	l.hear(u, api.ErrCode)
	l.see(was)
	l.hearBytes(answer, api.OK)
}

// Example 8.
func TestTalkUpToTheLast(t *testing.T) {
	l := talking(t, small, 9)
	if !l.talk([]byte{1, 2}, []byte{3}) {
		t.Fatalf("P9: number 2: host %+v, device %+v", l.h.See(), l.d.See())
	}
	frame := l.put()
	if want := l.frame(last(1, 3)); !bytes.Equal(frame, want) {
		t.Errorf("P14.2: % x, not % x", frame, want)
	}
	l.see(api.End{State: api.Done, Session: 1, Number: 2, Sent: 3, Latched: api.ErrExhausted})
	answer := l.give(frame)
	if d := l.d.See(); d.State != api.Done || d.Latched != api.ErrExhausted || d.On {
		t.Errorf("P13.3: the device: %+v", d)
	}
	// The device's last unit comes too late to bring anything.
	l.hearBytes(answer, api.ErrStale)
	l.silent(api.ErrDone)
	l.reset()
	l.holdUp(3, 2)
}

// Example 10.
func TestTalkWithoutASessionLeft(t *testing.T) {
	l := talking(t, plain, 1)
	l.d.Reset(0)
	if got := l.settle(7); got != 7 || l.isUp() {
		t.Errorf("P9: up behind %d exchanges: %+v", got, l.h.See())
	}
	if d := l.d.See(); d.State != api.Done || d.Latched != api.ErrExhausted {
		t.Errorf("P13.3: the device: %+v", d)
	}
	l.see(api.End{State: api.Idle, Session: 1, Latched: api.ErrResync})
}

// Unlike sets never come together: the signatures tell.
func TestTalkWithUnlikeSets(t *testing.T) {
	other := plain
	other.Watch++
	l := newLine(t, plain, 9)
	l.d = newLine(t, other, 9).d
	for range 20 {
		l.exchange()
	}
	l.see(api.End{State: api.Idle})
	// Nor does an offer of the other set bring anything.
	l.hear(offer(other, 1), api.ErrSignature)
	l.log(21, record(20, api.ErrStale, 0, 0), record(21, api.ErrSignature, 0, 0))
}

// mess: an adversary's move; the host's frames go into the one bag, the device's into the other.
func (l *line) mess(c *chance) {
	switch c.below(22) {
	case 0:
		l.h.Tick(c.below(l.set.Watch + 1))
	case 1:
		l.d.Tick(c.below(l.set.Watch + 1))
	case 2:
		l.h.Ack()
		l.d.Ack()
	case 3:
		if c.below(4) == 0 {
			l.h.Reset()
		}
	case 4:
		if c.below(4) == 0 {
			l.d.Reset(0)
		}
	case 5, 6, 7:
		l.put()
	case 8, 9, 10:
		if n := len(l.down); n > 0 {
			l.give(l.down[n-1-c.below(min(n, 1+c.below(8)))])
		}
	case 11, 12, 13:
		if n := len(l.up); n > 0 {
			l.h.Receive(l.up[n-1-c.below(min(n, 1+c.below(8)))])
		}
	case 14:
		// Any old frame, to either end.
		if len(l.up) > 0 {
			l.h.Receive(l.up[c.below(len(l.up))])
			l.d.Receive(l.up[c.below(len(l.up))])
		}
		if len(l.down) > 0 {
			l.give(l.down[c.below(len(l.down))])
			l.h.Receive(l.down[c.below(len(l.down))])
		}
	case 15:
		l.h.Write(c.bytes(l.set.Out), c.below(4) == 0)
		l.d.Write(c.bytes(l.set.In), c.below(4) == 0)
	default:
		l.exchange()
	}
}

// holdSafe: the host's output is fail-safe, or what the device sent in a data unit (P4).
func (l *line) holdSafe() {
	now := l.h.See()
	if !now.On {
		return
	}
	for _, frame := range l.up {
		u, _ := unit.Decode(frame)
		if u.Kind == api.DevData && u.Session == now.Session && u.Number == now.Number && bytes.Equal(u.Data, now.Out) {
			return
		}
	}
	l.t.Fatalf("P4: the device never sent what comes out: %+v", now)
}

// P9: from wherever an adversary has left them, both come up.
func TestItComesUp(t *testing.T) {
	c := &chance{at: 145}
	p := api.Param{Code: 7, Out: 2, In: 1, Watch: 12, Count: 2000}
	shown := 0
	for range 400 {
		l := newLine(t, p, greatest)
		for range c.below(200) {
			l.mess(c)
			l.holdSafe()
			if l.h.See().On {
				shown++
			}
		}
		if got := l.settle(7); !l.isUp() {
			t.Fatalf("P9: not up behind %d exchanges: host %+v, device %+v", got, l.h.See(), l.d.See())
		}
		// Some talk brings both values over, and then each does.
		first := -1
		for i := range 30 {
			ok := l.talk([]byte{byte(i), 1}, []byte{byte(i) + 2})
			l.holdSafe()
			if ok && first < 0 {
				first = i
			}
			if !ok && (first >= 0 || i >= 7) {
				t.Fatalf("P9: talk %d, the first one being %d: host %+v, device %+v", i, first, l.h.See(), l.d.See())
			}
		}
	}
	if shown < 5000 {
		t.Errorf("too little was tried: on %d times", shown)
	}
}
