package world_test

import (
	"testing"

	"parapet/api"
	"parapet/unit"
)

// example1: behind it both are Running in session 1, nothing is latched, neither is on.
func example1(t *testing.T) *bench {
	t.Helper()
	k := with(t, seven)
	k.settles(0, 3)
	k.looks(0, h, api.End{State: api.Running, Session: 1, Out: []byte{0}})
	k.looks(0, d, api.End{State: api.Running, Session: 1, Out: []byte{0, 0}})
	return k
}

// example2: behind it the device's output is aa bb, the host's cc.
func example2(t *testing.T) *bench {
	t.Helper()
	k := example1(t)
	k.plays(write(0, h, false, 0xaa, 0xbb), api.OK, nothing)
	k.plays(write(0, d, false, 0xcc), api.OK, nothing)
	k.exchange(0)
	k.looks(0, h, api.End{State: api.Running, Session: 1, Number: 1, Sent: 1, On: true, Out: []byte{0xcc}})
	k.looks(0, d, api.End{State: api.Running, Session: 1, Number: 1, Sent: 1, On: true, Out: []byte{0xaa, 0xbb}})
	return k
}

func TestExamples1And2(t *testing.T) { example2(t).holds() }

func TestExample3(t *testing.T) {
	k := example2(t)
	row := k.plays(tick(0, d, 10), api.OK, nothing)
	if row.Dev.Latched != 100 || row.Dev.On || row.Dev.Out[0] != 0 || row.Dev.Out[1] != 0 {
		t.Errorf("example 3: behind the ticks: %+v", row.Dev)
	}
	k.plays(ack(0, d), 110, nothing)
	k.plays(send(0), api.OK, 8)
	k.plays(give(0, d, 8), api.OK, 9)
	row = k.plays(give(0, h, 9), api.OK, nothing)
	if !row.Dev.Request || row.Dev.On {
		t.Errorf("example 3: behind the exchange: %+v", row.Dev)
	}
	row = k.plays(ack(0, d), api.OK, nothing)
	if row.Dev.Latched != api.OK || row.Dev.On || row.Dev.Out[0] != 0 {
		t.Errorf("example 3: behind the acknowledgement: %+v", row.Dev)
	}
	k.exchange(0)
	k.looks(0, d, api.End{State: api.Running, Session: 1, Number: 3, Sent: 3, On: true, Out: []byte{0xaa, 0xbb}})
	k.holds()
}

func TestExample4(t *testing.T) {
	k := example2(t)
	was := k.see(0, d)
	for i := range 3 {
		k.plays(give(0, d, 6), 130, 8+i)
		k.looks(0, d, was)
	}
	k.plays(give(0, d, 6), 130, 11)
	k.looks(0, d, api.End{State: api.Idle, Latched: 131, Out: []byte{0, 0}})
	k.holds()
}

func TestExamples5And6(t *testing.T) {
	k := example2(t)
	if row := k.plays(reset(0, h, 0), api.OK, nothing); row.Host.On || row.Host.Out[0] != 0 {
		t.Errorf("example 5: behind the reset: %+v", row.Host)
	}
	k.settles(0, 6)
	if got := k.see(0, d).Session; got != 2 {
		t.Errorf("example 5: session %d", got)
	}
	k.holds()
	k = example2(t)
	k.plays(reset(0, d, 0), api.OK, nothing)
	k.settles(0, 7)
	if got := k.see(0, d).Session; got != 2 {
		t.Errorf("example 6: session %d", got)
	}
	k.holds()
}

// Example 7: every frame of a talk, with bursts of all lengths at all places, at either end.
func TestExample7Bursts(t *testing.T) {
	tried := 0
	for at := range 8 * api.MaxUnit {
		k := example2(t)
		host, dev := k.see(0, h), k.see(0, d)
		for i := range k.w.Frames() {
			frame, _ := k.w.Frame(i)
			for _, word := range []uint32{1, 3, 5, 0x80000001, greatest, 0x10001, uint32(at)<<7 | 1} {
				for _, s := range []api.Side{h, d} {
					m := garble(0, s, i, at, word)
					if k.x.turned(m) == nil {
						k.refuses(m, api.ErrBurst)
						continue
					}
					tried++
					row := k.plays(m, 42, nothing)
					if !sameEnd(row.Host, host) || !sameEnd(row.Dev, dev) {
						t.Fatalf("P6, P10: %+v of % x: %+v, not as before", m, frame, row)
					}
				}
			}
		}
		k.ends()
	}
	if tried < 10000 {
		t.Errorf("too little was tried: %d garbled frames", tried)
	}
}

// Example 7, and P10: every frame of each connection, at every end that it isn't for.
func TestExample7OtherEnds(t *testing.T) {
	k := with(t, seven, api.Param{Code: 8, Out: 2, In: 1, Watch: 10, Count: 100}, api.Param{Code: 7 << 8, Out: 2, In: 1, Watch: 10, Count: 100})
	for conn := range 3 {
		k.settles(conn, 3)
		k.talks(conn, []byte{1, 2}, []byte{3})
	}
	was := make(map[[2]int]api.End)
	for conn := range 3 {
		was[[2]int{conn, 1}], was[[2]int{conn, 2}] = k.see(conn, h), k.see(conn, d)
	}
	tried := 0
	for i := range k.w.Frames() {
		u := k.unitOf(i)
		for conn, p := range k.x.net.Hosts {
			for _, s := range []api.Side{h, d} {
				own := s == h && unit.FromDevice(u.Kind) || s == d && unit.FromHost(u.Kind)
				switch {
				case !own:
					k.plays(give(conn, s, i), api.ErrKind, nothing)
				case u.Code != p.Code:
					k.plays(give(conn, s, i), 44, nothing)
				default:
					continue
				}
				tried++
				for at, end := range was {
					k.looks(at[0], api.Side(at[1]), end)
				}
			}
		}
	}
	if tried < 100 {
		t.Errorf("too little was tried: %d frames", tried)
	}
	k.holds()
}

func TestExample8(t *testing.T) {
	few := seven
	few.Count = 3
	k := with(t, few)
	k.settles(0, 3)
	for n := range uint32(2) {
		k.exchange(0)
		if got := k.see(0, d).Number; got != n+1 {
			t.Errorf("example 8: number %d, not %d", got, n+1)
		}
	}
	row := k.plays(send(0), api.OK, k.w.Frames())
	if u := k.unitOf(row.Sent); u.Kind != api.HostLast || u.Number != 3 {
		t.Errorf("example 8: the host sends %+v", u)
	}
	k.looks(0, h, api.End{State: api.Done, Session: 1, Number: 2, Sent: 3, Latched: 80, Out: []byte{0}})
	k.plays(give(0, d, row.Sent), api.OK, row.Sent+1)
	k.looks(0, d, api.End{State: api.Done, Session: 1, Number: 3, Sent: 3, Latched: 80, Out: []byte{0, 0}})
	k.holds()
}

func TestExample9(t *testing.T) {
	k := with(t, seven)
	k.plays(cut(0, 2), api.OK, nothing)
	k.plays(send(0), api.OK, 0)
	row := k.plays(give(0, d, 0), 70, nothing)
	if row.Dev.State != api.Down {
		t.Errorf("example 9: behind the cut: %+v", row.Dev)
	}
	k.plays(reset(0, d, 0), api.OK, nothing)
	k.settles(0, 3)
	if got := k.see(0, d).Session; got != 1 {
		t.Errorf("example 9: session %d", got)
	}
	k.holds()
}

func TestExample10(t *testing.T) {
	k := of(t, netOf(1, seven))
	k.settles(0, 3)
	k.plays(reset(0, d, 0), api.OK, nothing)
	for range 7 {
		k.exchange(0)
		if k.isUp(0) {
			t.Fatal("example 10: it is up")
		}
	}
	k.looks(0, d, api.End{State: api.Done, Latched: 80, Out: []byte{0, 0}})
	for range 20 {
		k.exchange(0)
	}
	k.looks(0, d, api.End{State: api.Done, Latched: 80, Out: []byte{0, 0}})
	k.holds()
}
