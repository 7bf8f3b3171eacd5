package mux_test

import (
	"bytes"
	"fmt"
	"testing"

	"parapet/api"
	"parapet/device"
	"parapet/mem"
	"parapet/mux"
	"parapet/unit"
)

// step is one call to a mux, or to one of its devices elsewhere.
type step func(k *bench)

// next: the unit that brings the device of this set on from where it stands.
func (k *bench) next(p api.Param) api.Unit {
	x := k.ends[p.Code]
	if x == nil {
		return wish(p)
	}
	now := x.hung.See()
	switch {
	case now.State == api.Offered:
		return echo(p, now.Session)
	case now.State == api.Agreed:
		return start(p, now.Session)
	case now.State == api.Running && now.Number+1 == p.Count:
		return last(p, now.Session)
	case now.State == api.Running:
		return data(p, now.Session, now.Number+1, byte(now.Number))
	}
	return wish(p)
}

func (k *bench) elsewhere(code uint32, do func(d *device.Device, m *mem.Mem)) {
	if x := k.ends[code]; x != nil {
		x.elsewhere(do)
	}
}

// stepsOf: the steps of a script that have to do with this set.
func stepsOf(p api.Param) []step {
	return []step{
		func(k *bench) { k.hear(encode(k.t, k.next(p))) },
		func(k *bench) { k.hear(encode(k.t, wish(p))) },
		func(k *bench) { k.hear(encode(k.t, data(p, 1, 1, 0x40))) },
		func(k *bench) { k.hear(garbled(k.t, k.next(p))) },
		func(k *bench) { k.add(newEnd(k.t, p)) },
		func(k *bench) { k.elsewhere(p.Code, func(d *device.Device, _ *mem.Mem) { d.Reset(0) }) },
		func(k *bench) { k.elsewhere(p.Code, func(_ *device.Device, m *mem.Mem) { m.Arm(2) }) },
	}
}

// small sets: their numbers and ticks end soon.
var (
	little = api.Param{Code: 7, Out: 2, In: 1, Watch: 2, Count: 3}
	other  = api.Param{Code: 9, Out: 2, In: 1, Watch: 3, Count: 3}
)

func shortSteps() []step {
	list := append(stepsOf(little), stepsOf(other)...)
	return append(list,
		func(k *bench) { k.tick(1) },
		func(k *bench) { k.tick(2) },
		func(k *bench) { k.tick(-1) },
		func(k *bench) { k.hear(encode(k.t, wish(nobody))) },
		func(k *bench) { k.elsewhere(7, func(d *device.Device, _ *mem.Mem) { d.Ack() }) },
	)
}

// beginnings: how far each of the two has been brought, or -1: it isn't there.
var beginnings = [][2]int{{-1, -1}, {0, -1}, {0, 0}, {3, 1}, {4, 2}, {4, 4}, {5, 6}}

func begun(t *testing.T, by [2]int) *bench {
	t.Helper()
	k := with(t)
	for i, p := range []api.Param{little, other} {
		if by[i] < 0 {
			continue
		}
		k.add(newEnd(t, p))
		for range by[i] {
			k.hear(encode(t, k.next(p)))
		}
	}
	return k
}

// Every script of three steps, from unlike beginnings.
func TestEveryShortScript(t *testing.T) {
	steps := shortSteps()
	n := len(steps)
	runs, on := 0, 0
	for _, by := range beginnings {
		for script := range n * n * n {
			k := begun(t, by)
			for at, rest := 0, script; at < 3; at, rest = at+1, rest/n {
				steps[rest%n](k)
				k.counts()
				on += len(k.m.On())
			}
			k.holds()
			runs++
		}
	}
	if runs != 7*19*19*19 || on < 20000 {
		t.Errorf("too little was tried: %d runs, on %d times", runs, on)
	}
}

// chance gives numbers that look like chance, the same ones at each run.
type chance struct{ at uint64 }

func (c *chance) below(n int) int {
	c.at = c.at*6364136223846793005 + 1442695040888963407
	return int(c.at>>33) % n
}

func (c *chance) bytes(n int) []byte {
	b := make([]byte, n)
	for i := range b {
		b[i] = byte(c.below(256))
	}
	return b
}

// any is a unit of any kind for a code, near to where its device stands.
func (c *chance) any(k *bench, p api.Param) api.Unit {
	now := api.End{}
	if x := k.ends[p.Code]; x != nil {
		now = x.hung.See()
	}
	u := allKinds()[c.below(11)]
	u.Code = p.Code
	if u.Session > 0 {
		u.Session = max(1, now.Session+uint32(c.below(3))-1)
	}
	if u.Number > 0 {
		u.Number = max(1, now.Number+uint32(c.below(4))-1)
	}
	if len(u.Data) == 4 && c.below(4) > 0 {
		u.Data = signature(p)
	}
	if len(u.Data) == 2 {
		u.Data, u.Flags = c.bytes(1+c.below(8)), c.below(16)
	}
	return u
}

// outside: something is done to a device past the mux.
func (c *chance) outside(k *bench, p api.Param) {
	n, v, hold := c.below(12), c.bytes(p.In), c.below(3) == 0
	k.elsewhere(p.Code, func(d *device.Device, m *mem.Mem) {
		switch {
		case n < 4:
			d.Ack()
		case n < 8:
			d.Write(v, hold)
		case n < 9:
			d.Tick(1)
		case n < 10:
			m.Arm(len(v) % 6)
		default:
			d.Reset(0)
		}
	})
}

// do: one step, held against the bench.
func (c *chance) do(k *bench, from []api.Param) {
	p := from[c.below(len(from))]
	switch n := c.below(40); {
	case n < 22:
		k.hear(encode(k.t, k.next(p)))
	case n < 27:
		answer, _ := k.hear(encode(k.t, c.any(k, p)))
		spoil(answer)
	case n < 29:
		k.hear(garbled(k.t, c.any(k, p)))
	case n < 30:
		k.hear(c.bytes(c.below(40)))
	case n < 34:
		k.tick(c.below(4) - 1)
	case n < 35:
		k.tick(c.below(30))
	case n < 36:
		k.add(newEnd(k.t, p))
	default:
		c.outside(k, p)
	}
	k.counts()
}

func TestLongScripts(t *testing.T) {
	c := &chance{at: 16}
	on, seen, lost := 0, 0, 0
	for run := range 60 {
		from := append([]api.Param{nobody}, sets[:1+run%8]...)
		k := with(t, sets[:run%4]...)
		for range 300 {
			c.do(k, from)
			on += len(k.m.On())
		}
		k.holds()
		lost += k.lost
		for _, x := range k.ends {
			seen += x.seen
		}
	}
	if on < 5000 || seen < 5000 || lost < 1000 {
		t.Errorf("too little was tried: on %d times, %d seen, %d lost", on, seen, lost)
	}
}

// A mux that is full, and more devices that want to hang on it.
func TestLongScriptsFull(t *testing.T) {
	c := &chance{at: 17}
	from := append([]api.Param{nobody, {Code: 10, Out: 1, In: 1, Watch: 4, Count: 20}}, sets[:]...)
	for range 15 {
		k := with(t, sets[:]...)
		for range 400 {
			c.do(k, from)
		}
		k.holds()
		if len(k.ends) != api.MaxConns {
			t.Errorf("P16.1: %d devices", len(k.ends))
		}
	}
}

func TestTwoInTurns(t *testing.T) {
	// Each goes by what it was told, whatever the other one is told between.
	c := &chance{at: 18}
	for range 20 {
		a, b := with(t, seven), with(t, nine, seven)
		for range 200 {
			k := a
			if c.below(3) == 1 {
				k = b
			}
			c.do(k, sets[:4])
			a.counts()
			b.counts()
		}
		a.holds()
		b.holds()
	}
}

// heard is what came to a mux for one code, or a tick of all.
type heard struct {
	frame []byte
	ticks int
}

// answers: what the device of a code answers to all that, and how it looks behind each.
func answersOf(m *mux.Mux, d *device.Device, code uint32, list []heard, between func(i int)) []string {
	var told []string
	for i, h := range list {
		between(i)
		if h.frame == nil {
			told = append(told, fmt.Sprint(m.Tick(h.ticks), d.See()))
			continue
		}
		got, answer, e := m.Receive(h.frame)
		told = append(told, fmt.Sprint(got, answer, e, d.See(), m.Seen(code)))
	}
	return told
}

// P16.4, P10: the same frames and ticks, to a lone device without a mux, to one alone on a mux,
// and to one among others whose frames come between, are answered alike.
func TestAloneAndAmongOthers(t *testing.T) {
	c := &chance{at: 19}
	shown := 0
	for run := range 40 {
		p := sets[run%len(sets)]
		list := c.story(t, p)
		alone, among, lone := with(t, p), with(t, sets[:]...), newEnd(t, p)
		want := answersOf(alone.m, alone.ends[p.Code].hung, p.Code, list, func(int) {})
		got := answersOf(among.m, among.ends[p.Code].hung, p.Code, list, func(i int) {
			for range c.below(5) {
				q := sets[(run+1+c.below(len(sets)-1))%len(sets)]
				among.m.Receive(encode(t, among.next(q)))
				among.m.Receive(garbled(t, wish(p)))
				among.m.Receive(encode(t, wish(nobody)))
			}
		})
		for i := range want {
			if got[i] != want[i] {
				t.Fatalf("P16.4: the device %d among others: %s, alone: %s", p.Code, got[i], want[i])
			}
		}
		for _, h := range list {
			if h.frame == nil {
				lone.lone.Tick(h.ticks)
			} else {
				lone.lone.Receive(h.frame)
			}
			if lone.lone.See().On {
				shown++
			}
		}
		if a, b := lone.lone.See(), among.ends[p.Code].hung.See(); !sameEnd(a, b) {
			t.Fatalf("P16.4: the device %d without a mux: %+v, among others: %+v", p.Code, a, b)
		}
	}
	if shown < 500 {
		t.Errorf("too little was tried: on %d times", shown)
	}
}

// story: frames for one device, and ticks, which bring it through its states.
func (c *chance) story(t *testing.T, p api.Param) (list []heard) {
	k := with(t, p)
	for range 120 {
		h := heard{ticks: c.below(2)}
		switch n := c.below(10); {
		case n < 7:
			h.frame = encode(t, k.next(p))
		case n < 9:
			h.frame = encode(t, c.any(k, p))
		}
		if h.frame == nil {
			k.tick(h.ticks)
		} else {
			k.hear(h.frame)
		}
		list = append(list, h)
	}
	return list
}

func TestTheSameAgain(t *testing.T) {
	// R8: what one mux is told, told to another, is answered the same.
	runs := func() (answers []string) {
		c := &chance{at: 20}
		k := with(t, sets[:6]...)
		for range 400 {
			p := sets[c.below(len(sets))]
			u := c.any(k, p)
			if c.below(3) > 0 {
				u = k.next(p)
			}
			code, answer, e := k.m.Receive(encode(t, u))
			answers = append(answers, fmt.Sprint(code, answer, e, k.m.Tick(c.below(2)), k.m.Codes(), k.m.On(), k.m.Lost(), k.m.Seen(p.Code)))
		}
		return answers
	}
	once := runs()
	for range 3 {
		for i, got := range runs() {
			if got != once[i] {
				t.Fatalf("R8: answer %d: %s, then %s", i, once[i], got)
			}
		}
	}
}

// Histories without a bench: what the chapter says of any mux.
func TestHistories(t *testing.T) {
	c := &chance{at: 21}
	for range 20 {
		k := with(t, sets[:5]...)
		for range 200 {
			p := sets[c.below(len(sets))]
			frame := encode(t, k.next(p))
			switch c.below(6) {
			case 0:
				frame = garbled(t, k.next(p))
			case 1, 2:
				frame = encode(t, c.any(k, p))
			}
			seen, lost := k.m.Seen(p.Code), k.m.Lost()
			code, answer, e := k.m.Receive(frame)
			u, _ := unit.Decode(answer)
			switch {
			case code == 0 && (e == api.OK || len(answer) > 0 || k.m.Lost() != lost+1 || k.m.Seen(p.Code) != seen):
				t.Fatalf("P16.2: a lost frame: % x, %d, Lost %d behind %d, Seen %d behind %d", answer, e, k.m.Lost(), lost, k.m.Seen(p.Code), seen)
			case code != 0 && (code != p.Code || k.m.Lost() != lost || k.m.Seen(code) != seen+1 || len(answer) > 0 && u.Code != code):
				t.Fatalf("P16.2: a frame for %d: %d, % x, %d, Lost %d behind %d, Seen %d behind %d", p.Code, code, answer, e, k.m.Lost(), lost, k.m.Seen(p.Code), seen)
			}
			if bytes.Equal(answer, frame) {
				t.Fatalf("P16.2: a frame answers itself: % x", frame)
			}
		}
	}
}
