package device_test

import (
	"bytes"
	"testing"

	"parapet/api"
	"parapet/mem"
)

func TestResetInEachPlace(t *testing.T) {
	for _, p := range []api.Param{small, plain} {
		for _, place := range places {
			for _, n := range []int{0, 100, 1 << 40, top} {
				b := at(t, p, place)
				b.d.Tick(p.Watch)
				b.d.Write(bytes.Repeat([]byte{0x77}, p.In), true)
				all, total := b.d.Log()
				b.reset(n, api.OK)
				b.see(api.End{State: api.Idle})
				// The records stay.
				b.log(total, all...)
				if b.m.Off() {
					t.Errorf("P13.2: behind a Reset the power is off")
				}
				if place == empty {
					b.hear(wish(p), api.ErrExhausted, none(0))
					continue
				}
				// The application's value and hold are new, the odd units 0, the watchdog fed.
				next := looks(p, place).Session + 1
				b.tick(p.Watch-1, api.OK)
				b.bring(next, begun)
				for range api.ResyncMax - 1 {
					b.hear(echo(p, next), api.ErrStale, none(next))
				}
				b.hear(data(next, 1, b.value(9)...), api.OK, back(next, 1, 0, make([]byte, p.In)...))
			}
		}
	}
}

func TestResetBelowZero(t *testing.T) {
	for _, place := range places {
		for _, n := range []int{-1, -2, least} {
			b := at(t, small, place)
			b.d.Tick(4)
			b.d.Write([]byte{0x77}, true)
			was, off, writes := b.d.See(), b.m.Off(), b.m.Writes()
			b.reset(n, api.ErrRange)
			b.see(was)
			b.log(noted(place))
			if b.m.Off() != off || b.m.Writes() != writes {
				t.Errorf("R4: Reset(%d) touches the memory", n)
			}
			if place == running {
				b.hear(data(1, 2, 5, 6), api.OK, back(1, 2, api.FlagHold, 0x77))
			}
			if place == idle {
				// Nor does it arm.
				b.hear(wish(small), api.OK, offer(small, 1))
			}
		}
	}
}

func TestResetPutsThePowerOn(t *testing.T) {
	for _, n := range []int{0, 1, 7, top} {
		// Armed: a Reset forgets it.
		b := fresh(t, plain)
		b.m.Arm(0)
		b.reset(n, api.OK)
		if n == 1 {
			b.hear(wish(plain), api.ErrCut, nothing)
			b.see(api.End{State: api.Down})
			continue
		}
		b.hear(wish(plain), api.OK, offer(plain, 1))
	}
	// Off, though the device isn't Down: it finds that out when it wants a session.
	b := fresh(t, plain)
	b.m.Arm(0)
	b.m.Write(0, 0)
	b.see(api.End{State: api.Idle})
	b.hear(start(1), api.ErrStale, none(0))
	b.reset(0, api.OK)
	b.hear(wish(plain), api.OK, offer(plain, 1))
	b.m.Arm(0)
	b.m.Write(0, 0)
	b.hear(echo(plain, 1), api.OK, agreed(1))
	b.hear(start(1), api.OK, started(1))
	b.hear(data(1, 1, 1, 2), api.OK, back(1, 1, 0, 0))
	b.giveUp(1, start(1))
	b.hear(wish(plain), api.ErrCut, nothing)
	b.see(api.End{State: api.Down})
}

// The power goes at each write of the cell's opening.
func TestResetWhileThePowerGoes(t *testing.T) {
	for _, place := range places {
		for _, half := range halves {
			for n := 1; n <= half.writes+1; n++ {
				b := at(t, plain, place)
				b.d.Tick(10)
				b.d.Write([]byte{0x77}, true)
				all, total := b.d.Log()
				// What another life has left.
				b.m.On()
				for i, c := range half.b[:10] {
					b.m.Write(i, c)
				}
				writes := b.m.Writes()
				if n > half.writes {
					b.reset(n, api.OK)
					b.see(api.End{State: api.Idle})
					if got := b.m.Writes() - writes; got != half.writes {
						t.Fatalf("P13.2: Reset(%d) over % x: %d writes, not %d", n, half.b, got, half.writes)
					}
					// The next write is the n-th.
					b.hear(wish(plain), api.ErrCut, nothing)
					b.see(api.End{State: api.Down})
					continue
				}
				b.reset(n, api.ErrCut)
				b.see(api.End{State: api.Down})
				b.log(total, all...)
				if got := b.m.Writes() - writes; got != n-1 || !b.m.Off() {
					t.Fatalf("P13.2: Reset(%d) over % x: %d writes, off: %v", n, half.b, got, b.m.Off())
				}
				// And again, the power going again.
				b.hear(wish(plain), api.ErrCut, nothing)
				b.reset(0, api.OK)
				b.see(api.End{State: api.Idle})
				b.hear(wish(plain), api.OK, offer(plain, half.next))
				b.log(total, all...)
			}
		}
	}
}

func TestResetAgainAndAgain(t *testing.T) {
	// One slot is full behind the first session: opening makes six writes.
	b := at(t, plain, offered)
	for n := 1; n <= 6; n++ {
		b.reset(n, api.ErrCut)
		b.see(api.End{State: api.Down})
		b.reset(n, api.ErrCut)
	}
	b.reset(7, api.OK)
	b.see(api.End{State: api.Idle})
	b.hear(wish(plain), api.ErrCut, nothing)
	b.reset(0, api.OK)
	b.reset(0, api.OK)
	b.hear(wish(plain), api.OK, offer(plain, 2))
	b.log(0)
}

// The power goes at each write while a session is begun: from Idle, Done, and
// behind the fourth odd unit.
func TestTheCutOfASession(t *testing.T) {
	for _, place := range []string{idle, offered, inAgree, begun, running, done} {
		for k := range 7 {
			b := at(t, plain, place)
			was := looks(plain, place)
			b.d.Write([]byte{0x77}, true)
			if place != idle && place != done {
				for range api.ResyncMax - 1 {
					if _, e := b.d.Receive(b.frame(wish(plain))); e != api.ErrStale {
						t.Fatalf("P13.3: a wish again: %d", e)
					}
				}
			}
			all, total := b.d.Log()
			writes := b.m.Writes()
			b.m.Arm(k)
			if was.State == api.Running {
				total++
				all = append(all, record(total, api.ErrResync, 1, was.Number))
			}
			if k == 6 {
				b.hear(wish(plain), api.OK, offer(plain, was.Session+1))
				b.log(total, all...)
				continue
			}
			b.hear(wish(plain), api.ErrCut, nothing)
			b.see(api.End{State: api.Down})
			// ErrCut isn't noted.
			b.log(total, all...)
			if b.m.Writes() != writes+k || !b.m.Off() {
				t.Errorf("P13.3: cut behind %d writes: %d", k, b.m.Writes()-writes)
			}
			b.reset(0, api.OK)
			b.see(api.End{State: api.Idle})
			// That number was not given; the next one is above all that were.
			b.bring(was.Session+1, begun)
			b.hear(data(was.Session+1, 1, 1, 2), api.OK, back(was.Session+1, 1, 0, 0))
			b.log(total, all...)
		}
	}
}

func TestDownAnswersNothingElse(t *testing.T) {
	b := at(t, plain, running)
	b.write([]byte{0x77}, true, api.OK)
	b.tick(3, api.OK)
	b.m.Arm(0)
	for range 3 {
		b.hear(wish(plain), api.ErrStale, none(1))
	}
	b.hear(wish(plain), api.ErrCut, nothing)
	for range 2 {
		b.see(api.End{State: api.Down})
		b.log(4, record(4, api.ErrResync, 1, 1))
		for _, n := range []int{0, 1, -1, top, least} {
			// R2: ErrCut ahead of ErrRange.
			b.tick(n, api.ErrCut)
		}
		for n := range api.MaxData + 2 {
			b.write(make([]byte, n), true, api.ErrCut)
		}
		b.ack(api.ErrCut)
		if got := b.d.Code(); got != 7 {
			t.Errorf("P13.5: Code while it is Down: %d", got)
		}
	}
	b.reset(0, api.OK)
	b.bring(2, begun)
	b.hear(data(2, 1, 1, 2), api.OK, back(2, 1, 0, 0))
}

// A second device over the same memory goes on where the first one was.
func TestASecondDevice(t *testing.T) {
	m := newMem(t)
	for s := uint32(1); s <= 9; s++ {
		b := over(t, plain, m, 9)
		b.see(api.End{State: api.Idle})
		b.log(0)
		b.bring(s, running)
	}
	b := over(t, plain, m, 9)
	b.hear(wish(plain), api.ErrExhausted, none(0))
	// With more sessions it goes on.
	b = over(t, plain, m, 10)
	b.bring(10, running)
}

// Any memory of ten bytes or more will do; what lies behind them stays.
func TestTheMemoryIsKept(t *testing.T) {
	for _, n := range []int{10, 11, 16, api.MaxMem} {
		long := bytes.Repeat([]byte{0x3c}, n)
		clear(long[:10])
		m, _ := mem.Load(long)
		b := over(t, plain, m, 9)
		b.bring(1, running)
		b.reset(0, api.OK)
		b.bring(2, running)
		got := m.Bytes()
		if !bytes.Equal(got[10:], long[10:]) {
			t.Errorf("P13.1: a device writes behind the cell's bytes")
		}
		if want := []byte{0xa5, 0, 0, 0, 2, 0xa5, 0, 0, 0, 1}; !bytes.Equal(got[:10], want) {
			t.Errorf("P13.3: the memory has % x, not % x", got[:10], want)
		}
	}
}
