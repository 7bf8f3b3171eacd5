package host_test

import (
	"bytes"
	"fmt"
	"testing"

	"parapet/api"
	"parapet/unit"
)

// The calls of a script.
const (
	send  = 's'
	hear  = 'h' // a unit comes
	hearB = 'b' // bytes come
	write = 'w'
	tick  = 't'
	ack   = 'a'
	reset = 'r'
)

// step is one call; a unit's session, and a data unit's number, count from the
// host's own ones, where rel is set.
type step struct {
	call  byte
	u     api.Unit
	rel   bool
	n     int
	hold  bool
	value []byte
}

func (s step) String() string {
	switch s.call {
	case hear:
		return fmt.Sprintf("{%d session %d number %d flags %d % x rel %v}", s.u.Kind, int32(s.u.Session), int32(s.u.Number), s.u.Flags, s.u.Data, s.rel)
	case hearB:
		return fmt.Sprintf("bytes % x", s.value)
	case write:
		return fmt.Sprintf("Write(% x, %v)", s.value, s.hold)
	}
	return fmt.Sprintf("%c %d", s.call, s.n)
}

// frame: what comes by the step.
func (s step) frame(p api.Param, now api.End) []byte {
	if s.call == hearB {
		return s.value
	}
	u := s.u
	if s.rel {
		u.Session += now.Session
		if u.Kind == api.DevData {
			u.Number += now.Number
		}
	}
	if u.Code == 0 {
		u.Code = p.Code
	}
	b, _ := unit.Encode(u) // none, where it isn't lawful: that is a frame, too
	return b
}

// do: the step, done to both.
func (x *pair) do(t *testing.T, s step) {
	got, want := api.OK, api.OK
	switch s.call {
	case send:
		var frame, wanted []byte
		var u api.Unit
		frame, got = x.h.Send()
		if u, want = x.w.send(); want == api.OK {
			wanted = x.frame(u)
		}
		if !bytes.Equal(frame, wanted) {
			t.Fatalf("P14.2: Send: % x, not % x", frame, wanted)
		}
	case hear, hearB:
		frame := s.frame(x.set, x.w.see())
		got, want = x.h.Receive(frame), x.w.receive(frame)
	case write:
		got, want = x.h.Write(s.value, s.hold), x.w.write(s.value, s.hold)
	case tick:
		got, want = x.h.Tick(s.n), x.w.tick(s.n)
	case ack:
		got, want = x.h.Ack(), x.w.ack()
	case reset:
		got, want = x.h.Reset(), x.w.reset()
	}
	if got != want {
		t.Fatalf("P14.1 to P14.4: %v: %d, not %d", s, got, want)
	}
}

// holdScript: step for step as the twin says.
func holdScript(t *testing.T, x *pair, script []step) {
	for i, s := range script {
		x.do(t, s)
		if !x.same() {
			got, total := x.h.Log()
			t.Fatalf("P14.1 to P14.4: %v: See %+v, not %+v; Log %v, %d, not %v", script[:i+1], x.h.See(), x.w.see(), got, total, x.w.notes)
		}
	}
}

// Counted from the host's own session and number.
func rel(u api.Unit) step { return step{call: hear, u: u, rel: true} }

// every: the steps of short scripts, for the set small.
func every() []step {
	return []step{
		{call: send},
		rel(offer(small, 1)), rel(offer(small, 0)), rel(unsigned(small, 1)),
		rel(agreed(0)), rel(agreed(1)), rel(started(0)),
		rel(back(0, 1, 7)), rel(with(back(0, 1, 8), api.FlagHold)), rel(back(0, 0, 9)),
		rel(lastBack(0, 3)), rel(none(0)),
		{call: tick, n: 10}, {call: ack}, {call: reset},
		{call: write, value: []byte{9, 9}, hold: true},
	}
}

// beginnings: ways to places where a host can stand.
func beginnings() [][]step {
	o, a, s, d := rel(offer(small, 1)), rel(agreed(0)), rel(started(0)), rel(back(0, 1, 5))
	out, dog, taken := step{call: send}, step{call: tick, n: 10}, step{call: ack}
	return [][]step{
		{}, {out}, {out, out, out, out, out}, {dog}, {o}, {o, out, out, out, out}, {o, out, out, out, out, out}, {o, a},
		{o, a, out, out, out, out}, {o, a, s}, {o, a, s, out}, {o, a, s, out, out}, {o, a, s, out, d, out, d},
		{o, a, s, d, dog}, {o, a, s, d, dog, d}, {o, a, s, out, d, dog, d, taken}, {o, a, s, d, out, out, out},
		{o, a, s, rel(lastBack(0, 3))}, {o, a, s, d, {call: reset}, o, a, s, d}, {o, a, out, out, out, out, out, o, a, s, out},
	}
}

// scripts calls try with every script of just so many of these steps.
func scripts(steps []step, length int, try func(script []step)) {
	script := make([]step, length)
	var from func(i int)
	from = func(i int) {
		if i == length {
			try(script)
			return
		}
		for _, s := range steps {
			script[i] = s
			from(i + 1)
		}
	}
	from(0)
}

func TestEveryShortScript(t *testing.T) {
	// With Count 6 a session can be given up while it is Running.
	more := small
	more.Count = 6
	for _, p := range []api.Param{small, more} {
		for _, beginning := range beginnings() {
			scripts(every(), 3, func(script []step) {
				x := newPair(t, p)
				for _, s := range beginning {
					x.do(t, s)
				}
				holdScript(t, x, script)
			})
		}
	}
}

// chance gives numbers that look like chance, the same ones at each run.
type chance struct{ at uint64 }

func (c *chance) below(n int) int {
	c.at = c.at*6364136223846793005 + 1442695040888963407
	return int(c.at>>33) % n
}

func (c *chance) bytes(n int) []byte {
	b := make([]byte, n)
	for i := range b {
		b[i] = byte(c.below(256))
	}
	return b
}

// onwards: what brings a host on from where it stands.
func (c *chance) onwards(p api.Param, now api.End) step {
	switch now.State {
	case api.Idle:
		return rel(offer(p, 1))
	case api.Offered:
		return rel(agreed(0))
	case api.Agreed:
		return rel(started(0))
	case api.Done:
		return step{call: reset}
	}
	u := with(back(0, 1, c.bytes(p.In)...), c.below(16))
	if c.below(4) > 0 {
		u.Flags &^= api.FlagHold
	}
	if c.below(6) == 0 {
		u.Number += uint32(c.below(4))
	}
	return rel(u)
}

// stray: a unit of any kind, near to what would be right.
func (c *chance) stray(p api.Param) step {
	u := []api.Unit{offer(p, 0), agreed(0), started(0), back(0, 1, c.bytes(p.In)...), lastBack(0, p.Count), none(0)}[c.below(6)]
	s := rel(u)
	switch c.below(8) {
	case 0:
		s.u.Session += uint32(c.below(3)) - 1
	case 1:
		s.u.Number += uint32(c.below(5)) - 2
	case 2:
		if len(u.Data) > 0 {
			s.u.Data = c.bytes(1 + c.below(8))
		}
	case 3:
		s.u.Code = uint32(c.below(9))
	case 4:
		s.u.Flags = c.below(18)
	case 5:
		s.u.Session = 1
		if u.Kind == api.DevOffer {
			s.u.Data = wrong(p)
		}
	case 6:
		s = rel([]api.Unit{wish(p), echo(p, 0), start(0), data(0, 1, 0, 1), last(0, 1)}[c.below(5)])
	}
	return s
}

// pick: a step for a host that stands there.
func (c *chance) pick(p api.Param, now api.End) step {
	switch c.below(18) {
	case 0, 1:
		return c.stray(p)
	case 2:
		b := c.onwards(p, now).frame(p, now)
		if len(b) > 0 {
			b[c.below(len(b))] ^= byte(c.below(256))
		}
		return step{call: hearB, value: b[:max(0, len(b)-c.below(12)/11)]}
	case 3:
		return step{call: tick, n: c.below(p.Watch + 2)}
	case 4, 5:
		return step{call: ack}
	case 6:
		return step{call: write, value: c.bytes(p.Out - c.below(5)/4), hold: c.below(3) == 0}
	case 7:
		switch c.below(8) {
		case 0:
			return step{call: reset}
		case 1:
			return rel(lastBack(0, p.Count))
		case 2:
			return step{call: tick, n: p.Watch + c.below(1000)}
		case 3:
			return step{call: tick, n: c.below(p.Watch) - p.Watch}
		}
		return step{call: ack}
	case 8, 9, 10, 11, 12, 13:
		return step{call: send}
	}
	if now.State == api.Done && c.below(4) > 0 {
		return c.stray(p)
	}
	return c.onwards(p, now)
}

func TestLongScripts(t *testing.T) {
	c := &chance{at: 141}
	states := map[api.State]int{}
	faults := map[api.Errno]int{}
	on, asks := 0, 0
	for i := range 200 {
		p := sets[i%len(sets)]
		if p.Count > 1000 {
			p.Count = uint32(2 + c.below(300))
		}
		p.Watch = min(p.Watch, 50)
		x := newPair(t, p)
		for range 500 {
			holdScript(t, x, []step{c.pick(p, x.w.see())})
			now := x.w.see()
			states[now.State]++
			faults[now.Latched]++
			if now.On {
				on++
			}
			if now.Request {
				asks++
			}
		}
	}
	for s := api.Idle; s <= api.Done; s++ {
		if states[s] < 300 {
			t.Errorf("too little was tried: state %d: %d times", s, states[s])
		}
	}
	for _, e := range []api.Errno{api.ErrWatchdog, api.ErrResync, api.ErrExhausted} {
		if faults[e] < 300 {
			t.Errorf("too little was tried: %d was latched %d times", e, faults[e])
		}
	}
	if on < 3000 || asks < 500 {
		t.Errorf("too little was tried: on %d times, asking %d times", on, asks)
	}
}

func TestTwoInTurns(t *testing.T) {
	// R8: each goes by its own steps, whatever the other one does between; with one set, and with two.
	c := &chance{at: 142}
	other := api.Param{Code: 8, Out: 8, In: 8, Watch: 3, Count: 7}
	for _, p := range [][2]api.Param{{plain, plain}, {plain, other}, {small, small}} {
		two := [2]*pair{newPair(t, p[0]), newPair(t, p[1])}
		for range 3000 {
			x := two[c.below(2)]
			s := c.pick(x.set, x.w.see())
			x.do(t, s)
			if !two[0].same() || !two[1].same() {
				t.Fatalf("R8: %v at the one shows at the other", s)
			}
		}
	}
}

func TestTheSameAgain(t *testing.T) {
	// R8: what is done to one, done to another, is answered the same.
	runs := func() (answers []string) {
		c := &chance{at: 143}
		b := fresh(t, plain)
		for range 500 {
			now := b.h.See()
			s := c.pick(plain, now)
			var frame []byte
			var e api.Errno
			switch s.call {
			case send:
				frame, e = b.h.Send()
			case hear, hearB:
				e = b.h.Receive(s.frame(plain, now))
			case write:
				e = b.h.Write(s.value, s.hold)
			case tick:
				e = b.h.Tick(s.n)
			case ack:
				e = b.h.Ack()
			case reset:
				e = b.h.Reset()
			}
			log, total := b.h.Log()
			answers = append(answers, fmt.Sprint(frame, e, b.h.See(), log, total))
		}
		return answers
	}
	once := runs()
	for range 2 {
		for i, got := range runs() {
			if got != once[i] {
				t.Fatalf("R8: answer %d: %s, then %s", i, once[i], got)
			}
		}
	}
}
