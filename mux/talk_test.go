package mux_test

import (
	"bytes"
	"testing"

	"parapet/api"
	"parapet/device"
	"parapet/host"
	"parapet/mux"
)

// line is a host whose device hangs on a channel with others, and every frame that either has sent.
type line struct {
	m    *mux.Mux
	set  api.Param
	h    *host.Host
	d    *device.Device
	down [][]byte
	up   [][]byte
}

// channel: hosts and devices of these sets on one mux.
func channel(t *testing.T, sets []api.Param) []*line {
	t.Helper()
	m := mux.New()
	var lines []*line
	for _, p := range sets {
		d, _ := deviceUpTo(t, p, greatest)
		h, e := host.New(p)
		if e != api.OK || m.Add(d) != api.OK {
			t.Fatalf("P14.1, P16.1: the connection %d", p.Code)
		}
		lines = append(lines, &line{m: m, set: p, h: h, d: d})
	}
	return lines
}

// send: the host sends.
func (l *line) send() []byte {
	frame, e := l.h.Send()
	if e == api.OK {
		l.down = append(l.down, frame)
	}
	return frame
}

// give: a frame comes over the channel.
func (l *line) give(frame []byte) []byte {
	_, answer, _ := l.m.Receive(frame)
	if len(answer) > 0 {
		l.up = append(l.up, answer)
	}
	return answer
}

// exchange: the host sends, the device answers, and both are acknowledged where they ask.
func (l *line) exchange() api.Errno {
	e := l.h.Receive(l.give(l.send()))
	if l.h.See().Request {
		l.h.Ack()
	}
	if l.d.See().Request {
		l.d.Ack()
	}
	return e
}

func (l *line) isUp() bool {
	h, d := l.h.See(), l.d.See()
	return h.State == api.Running && d.State == api.Running && h.Session == d.Session && h.Latched == api.OK && d.Latched == api.OK
}

// talk: both applications write, and an exchange makes that the other end's output.
func (l *line) talk(first byte) bool {
	down, up := value(l.set.Out, first), value(l.set.In, first+1)
	l.h.Write(down, false)
	l.d.Write(up, false)
	e := l.exchange()
	h, d := l.h.See(), l.d.See()
	return e == api.OK && h.On && d.On && bytes.Equal(h.Out, up) && bytes.Equal(d.Out, down)
}

// talkers: sets with numbers enough.
func talkers(n int) []api.Param {
	var list []api.Param
	for i := range n {
		list = append(list, api.Param{Code: uint32(40 - 3*i), Out: 1 + i%8, In: 8 - i%8, Watch: 12, Count: 2000})
	}
	return list
}

// The document's examples 1 and 2, for eight connections on one channel, in turns.
func TestTalkTogether(t *testing.T) {
	lines := channel(t, talkers(api.MaxConns))
	for range 3 {
		for _, l := range lines {
			if l.isUp() {
				t.Fatalf("P9: the connection %d is up too soon", l.set.Code)
			}
			if e := l.exchange(); e != api.OK {
				t.Fatalf("P9: the connection %d: %d", l.set.Code, e)
			}
		}
	}
	for n := range 40 {
		for i, l := range lines {
			if !l.isUp() || !l.talk(byte(5*n+i)) {
				t.Fatalf("P9: the connection %d: host %+v, device %+v", l.set.Code, l.h.See(), l.d.See())
			}
		}
		if got := lines[0].m.On(); len(got) != api.MaxConns {
			t.Fatalf("P16.3: On: %d", got)
		}
	}
	for _, l := range lines {
		if got := l.m.Seen(l.set.Code); got != 43 || l.m.Lost() != 0 {
			t.Errorf("P16.3: Seen(%d): %d, Lost %d", l.set.Code, got, l.m.Lost())
		}
	}
}

// mess: an adversary's move on one connection; any connection's frames may come to its ends.
func (l *line) mess(c *chance, lines []*line) {
	other := lines[c.below(len(lines))]
	switch c.below(16) {
	case 0:
		l.h.Tick(c.below(l.set.Watch + 1))
	case 1:
		l.m.Tick(c.below(4))
	case 2:
		l.h.Ack()
		l.d.Ack()
	case 3:
		if c.below(4) == 0 {
			l.h.Reset()
		}
	case 4:
		if c.below(4) == 0 {
			l.d.Reset(0)
		}
	case 5, 6:
		l.send()
	case 7, 8:
		if n := len(l.down); n > 0 {
			l.give(l.down[n-1-c.below(min(n, 6))])
		}
	case 9, 10:
		if n := len(l.up); n > 0 {
			l.h.Receive(l.up[n-1-c.below(min(n, 6))])
		}
	case 11:
		if len(other.up) > 0 {
			l.h.Receive(other.up[c.below(len(other.up))])
			l.m.Receive(other.up[c.below(len(other.up))])
		}
	case 12:
		l.h.Write(c.bytes(l.set.Out), c.below(4) == 0)
		l.d.Write(c.bytes(l.set.In), c.below(4) == 0)
	default:
		l.exchange()
	}
}

// P9, P10: from wherever an adversary has left it, a connection comes up in seven exchanges, whatever the others do between.
func TestItComesUp(t *testing.T) {
	c := &chance{at: 165}
	shown, slow := 0, 0
	for run := range 150 {
		lines := channel(t, talkers(2+run%4))
		for range c.below(300) {
			lines[c.below(len(lines))].mess(c, lines)
			shown += len(lines[0].m.On())
		}
		l := lines[c.below(len(lines))]
		took := 0
		for ; took < 7 && !l.isUp(); took++ {
			l.exchange()
			lines[c.below(len(lines))].sendAlong(l)
		}
		if !l.isUp() {
			t.Fatalf("P9: not up behind %d exchanges: host %+v, device %+v", took, l.h.See(), l.d.See())
		}
		if took > 3 {
			slow++
		}
		l.holdTalk(t, func() { lines[c.below(len(lines))].sendAlong(l) })
	}
	if shown < 5000 || slow < 20 {
		t.Errorf("too little was tried: on %d times, slow %d times", shown, slow)
	}
}

// holdTalk: the first talk brings both values over, or the one behind it, and from then on each does.
func (l *line) holdTalk(t *testing.T, between func()) {
	t.Helper()
	for i := range 20 {
		if ok := l.talk(byte(7 * i)); !ok && i > 0 {
			t.Fatalf("P9: talk %d of the connection %d: host %+v, device %+v", i, l.set.Code, l.h.See(), l.d.See())
		}
		between()
	}
}

// sendAlong: an exchange of a connection that isn't this one.
func (l *line) sendAlong(other *line) {
	if l != other {
		l.exchange()
	}
}
