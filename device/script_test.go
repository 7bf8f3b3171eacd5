package device_test

import (
	"bytes"
	"fmt"
	"testing"

	"parapet/api"
	"parapet/unit"
)

// The calls of a script.
const (
	hear  = 'h' // a unit comes
	hearB = 'b' // bytes come
	write = 'w'
	tick  = 't'
	ack   = 'a'
	reset = 'r'
	cut   = 'c' // the memory is armed
	remak = 'm' // another device over the same memory
)

// step is one call; a unit's session and number count from the device's own ones, where rel is set.
type step struct {
	call  byte
	u     api.Unit
	rel   bool
	n     int
	hold  bool
	value []byte
}

func (s step) String() string {
	switch s.call {
	case hear:
		return fmt.Sprintf("{%d session %d number %d flags %d % x rel %v}", s.u.Kind, int32(s.u.Session), int32(s.u.Number), s.u.Flags, s.u.Data, s.rel)
	case hearB:
		return fmt.Sprintf("bytes % x", s.value)
	case write:
		return fmt.Sprintf("Write(% x, %v)", s.value, s.hold)
	}
	return fmt.Sprintf("%c %d", s.call, s.n)
}

// frame: what comes by the step.
func (s step) frame(p api.Param, now api.End) []byte {
	if s.call == hearB {
		return s.value
	}
	u := s.u
	if s.rel {
		u.Session += now.Session
		if u.Kind == api.HostData || u.Kind == api.HostLast {
			u.Number += now.Number
		}
	}
	if u.Code == 0 {
		u.Code = p.Code
	}
	b, _ := unit.Encode(u) // none, where it isn't lawful: that is a frame, too
	return b
}

// do: the step, done to both.
func (x *pair) do(t *testing.T, s step) {
	got, want := api.OK, api.OK
	switch s.call {
	case hear, hearB:
		frame := s.frame(x.set, x.w.see())
		var answer []byte
		var told api.Unit
		answer, got = x.d.Receive(frame)
		told, want = x.w.receive(frame)
		var wanted []byte
		if told.Kind != 0 {
			told.Code = x.set.Code
			wanted, _ = unit.Encode(told)
		}
		if !bytes.Equal(answer, wanted) || len(wanted) == 0 && told.Kind != 0 {
			t.Fatalf("P13.3: %v: answered % x, not % x", s, answer, wanted)
		}
	case write:
		got, want = x.d.Write(s.value, s.hold), x.w.write(s.value, s.hold)
	case tick:
		got, want = x.d.Tick(s.n), x.w.tick(s.n)
	case ack:
		got, want = x.d.Ack(), x.w.ack()
	case reset:
		got, want = x.d.Reset(s.n), x.w.reset(s.n)
	case cut:
		x.m.Arm(s.n)
		x.w.m.Arm(s.n)
	case remak:
		x.make(x.w.m, x.w.max)
	}
	if got != want {
		t.Fatalf("P13.2 to P13.4: %v: %d, not %d", s, got, want)
	}
}

// holdScript: step for step as the twin says.
func holdScript(t *testing.T, x *pair, script []step) {
	for i, s := range script {
		x.do(t, s)
		if !x.same() {
			got, total := x.d.Log()
			t.Fatalf("P13.2 to P13.5: %v: See %+v, not %+v; Log %v, %d, not %v; memory % x, not % x", script[:i+1], x.d.See(), x.w.see(), got, total, x.w.notes, x.m.Bytes(), x.w.m.Bytes())
		}
	}
}

// Counted from the device's own session and number.
func rel(u api.Unit) step { return step{call: hear, u: u, rel: true} }

// every: the steps of short scripts, for the set small.
func every() []step {
	odd := unsigned(wish(small))
	return []step{
		{call: hear, u: wish(small)}, {call: hear, u: odd},
		rel(echo(small, 0)), rel(start(0)),
		rel(data(0, 1, 1, 2)), rel(with(data(0, 1, 3, 4), 8)), rel(data(0, 0, 5, 6)),
		{call: hear, u: last(1, 3)}, rel(echo(small, 1)),
		{call: tick, n: 10}, {call: ack}, {call: reset}, {call: reset, n: 3}, {call: cut, n: 2},
		{call: write, value: []byte{9}, hold: true}, {call: remak},
	}
}

// beginnings: ways to places where a device can stand.
func beginnings() [][]step {
	w, e, s := step{call: hear, u: wish(small)}, rel(echo(small, 0)), rel(start(0))
	d, o := rel(data(0, 1, 7, 8)), rel(data(0, 0, 5, 6))
	dog, taken := step{call: tick, n: 10}, step{call: ack}
	return [][]step{
		{}, {dog}, {w}, {w, o, o, o}, {w, e}, {w, e, o, o, o}, {w, e, s}, {w, e, s, d}, {w, e, s, d, o, o, o},
		{w, e, s, d, dog}, {w, e, s, d, dog, d}, {w, e, s, d, dog, d, taken}, {w, e, s, d, d, dog, {call: hear, u: last(1, 3)}},
		{w, e, s, {call: hear, u: last(1, 3)}}, {w, {call: reset, n: 2}}, {{call: cut}, w}, {w, e, s, d, {call: reset}, w, e, s, d},
	}
}

// scripts calls try with every script of just so many of these steps.
func scripts(steps []step, length int, try func(script []step)) {
	script := make([]step, length)
	var from func(i int)
	from = func(i int) {
		if i == length {
			try(script)
			return
		}
		for _, s := range steps {
			script[i] = s
			from(i + 1)
		}
	}
	from(0)
}

func TestEveryShortScript(t *testing.T) {
	zero := make([]byte, 12)
	for _, beginning := range beginnings() {
		scripts(every(), 3, func(script []step) {
			x := newPair(t, small, zero, 3)
			for _, s := range beginning {
				x.do(t, s)
			}
			holdScript(t, x, script)
		})
	}
}

// chance gives numbers that look like chance, the same ones at each run.
type chance struct{ at uint64 }

func (c *chance) below(n int) int {
	c.at = c.at*6364136223846793005 + 1442695040888963407
	return int(c.at>>33) % n
}

func (c *chance) bytes(n int) []byte {
	b := make([]byte, n)
	for i := range b {
		b[i] = byte(c.below(256))
	}
	return b
}

// onwards: what brings a device on from where it stands.
func (c *chance) onwards(p api.Param, now api.End) step {
	switch now.State {
	case api.Offered:
		return rel(echo(p, 0))
	case api.Agreed:
		return rel(start(0))
	case api.Running:
		u := with(data(0, 1, c.bytes(p.Out)...), c.below(16))
		if c.below(4) > 0 {
			u.Flags &^= api.FlagHold
		}
		if c.below(6) == 0 {
			u.Number += uint32(c.below(4))
		}
		return rel(u)
	case api.Down:
		return step{call: reset, n: c.below(3) * c.below(9)}
	}
	return step{call: hear, u: wish(p)}
}

// stray: a unit of any kind, near to what would be right.
func (c *chance) stray(p api.Param) step {
	u := []api.Unit{wish(p), echo(p, 0), start(0), data(0, 1, c.bytes(p.Out)...), last(0, 1)}[c.below(5)]
	s := rel(u)
	switch c.below(8) {
	case 0:
		s.u.Session += uint32(c.below(3)) - 1
	case 1:
		s.u.Number += uint32(c.below(5)) - 2
	case 2:
		if len(u.Data) > 0 {
			s.u.Data = c.bytes(1 + c.below(8))
		}
	case 3:
		s.u.Code = uint32(c.below(9))
	case 4:
		s.u.Flags = c.below(18)
	case 5:
		if u.Kind == api.HostLast {
			s = step{call: hear, u: last(uint32(c.below(4)), p.Count)}
		}
	case 6:
		s = rel([]api.Unit{offer(p, 0), agreed(0), started(0), back(0, 1, 0, 1), lastBack(0, 1), none(0)}[c.below(6)])
	}
	return s
}

// pick: a step for a device that stands there.
func (c *chance) pick(p api.Param, now api.End) step {
	switch c.below(16) {
	case 0, 1:
		return c.stray(p)
	case 2:
		b := c.onwards(p, now).frame(p, now)
		if len(b) > 0 {
			b[c.below(len(b))] ^= byte(c.below(256))
		}
		return step{call: hearB, value: b[:max(0, len(b)-c.below(12)/11)]}
	case 3:
		return step{call: tick, n: c.below(p.Watch + 2)}
	case 4, 5:
		return step{call: ack}
	case 6:
		return step{call: write, value: c.bytes(p.In - c.below(5)/4), hold: c.below(3) == 0}
	case 7:
		return c.seldom(p, now)
	}
	return c.onwards(p, now)
}

// seldom: what would leave too little else, if it came often.
func (c *chance) seldom(p api.Param, now api.End) step {
	switch c.below(12) {
	case 0:
		return step{call: reset, n: c.below(10) - 1}
	case 1:
		return step{call: cut, n: c.below(14)}
	case 2:
		return step{call: remak}
	case 3:
		return step{call: hear, u: last(now.Session, p.Count)}
	case 4:
		return step{call: tick, n: p.Watch + c.below(1000)}
	case 5:
		return step{call: tick, n: c.below(p.Watch) - p.Watch}
	}
	return step{call: hear, u: wish(p)}
}

func TestLongScripts(t *testing.T) {
	c := &chance{at: 131}
	states := map[api.State]int{}
	on, asks := 0, 0
	for i := range 150 {
		p := sets[i%len(sets)]
		if p.Count > 1000 {
			p.Count = uint32(2 + c.below(300))
		}
		p.Watch = min(p.Watch, 50)
		x := newPair(t, p, make([]byte, 10+c.below(20)), uint32(1+c.below(60)))
		for range 400 {
			holdScript(t, x, []step{c.pick(p, x.w.see())})
			now := x.w.see()
			states[now.State]++
			if now.On {
				on++
			}
			if now.Request {
				asks++
			}
		}
	}
	for s := api.Idle; s <= api.Down; s++ {
		if states[s] < 300 {
			t.Errorf("too little was tried: state %d: %d times", s, states[s])
		}
	}
	if on < 3000 || asks < 500 {
		t.Errorf("too little was tried: on %d times, asking %d times", on, asks)
	}
}

// Any bytes in the memory at first.
func TestAnyMemory(t *testing.T) {
	c := &chance{at: 132}
	for range 400 {
		b := c.bytes(10)
		for i := 0; i < 10; i += 5 {
			if c.below(3) > 0 {
				b[i] = 0xa5
			}
			if c.below(3) > 0 {
				copy(b[i+1:], []byte{0, 0, 0, byte(c.below(5))})
			}
		}
		x := newPair(t, plain, b, []uint32{1, 5, 1 << 31, greatest}[c.below(4)])
		for range 40 {
			holdScript(t, x, []step{c.pick(plain, x.w.see())})
		}
	}
}

func TestTwoInTurns(t *testing.T) {
	// R8: each goes by its own steps, whatever the other one does between; with one set, and with two.
	c := &chance{at: 133}
	other := api.Param{Code: 8, Out: 8, In: 8, Watch: 3, Count: 7}
	for _, p := range [][2]api.Param{{plain, plain}, {plain, other}, {small, small}} {
		two := [2]*pair{newPair(t, p[0], make([]byte, 16), 20), newPair(t, p[1], make([]byte, 16), 20)}
		for range 2000 {
			x := two[c.below(2)]
			s := c.pick(x.set, x.w.see())
			x.do(t, s)
			if !two[0].same() || !two[1].same() {
				t.Fatalf("R8: %v at the one shows at the other", s)
			}
		}
	}
}

func TestTheSameAgain(t *testing.T) {
	// R8: what is done to one, done to another, is answered the same.
	runs := func() (answers []string) {
		c := &chance{at: 134}
		b := fresh(t, plain)
		for range 500 {
			now := b.d.See()
			s := c.pick(plain, now)
			var answer []byte
			var e api.Errno
			switch s.call {
			case hear, hearB:
				answer, e = b.d.Receive(s.frame(plain, now))
			case write:
				e = b.d.Write(s.value, s.hold)
			case tick:
				e = b.d.Tick(s.n)
			case ack:
				e = b.d.Ack()
			case reset:
				e = b.d.Reset(s.n)
			case cut:
				e = b.m.Arm(s.n)
			}
			log, total := b.d.Log()
			answers = append(answers, fmt.Sprint(answer, e, b.d.See(), log, total, b.m.Bytes()))
		}
		return answers
	}
	once := runs()
	for range 2 {
		for i, got := range runs() {
			if got != once[i] {
				t.Fatalf("R8: answer %d: %s, then %s", i, once[i], got)
			}
		}
	}
}
