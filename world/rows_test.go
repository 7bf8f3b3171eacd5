package world_test

import (
	"bytes"
	"testing"

	"parapet/api"
)

// oneUp: the chapter's connection, up, each end's value at the other: frames 0 to 7.
func oneUp(t *testing.T) *bench {
	t.Helper()
	k := with(t, seven)
	k.settles(0, 3)
	k.talks(0, []byte{0xaa, 0xbb}, []byte{0xcc})
	return k
}

// downed: likewise, and then the device's power goes.
func downed(t *testing.T) *bench {
	t.Helper()
	k := oneUp(t)
	k.plays(reset(0, api.AtDevice, 0), api.OK, nothing)
	k.plays(cut(0, 0), api.OK, nothing)
	k.plays(give(0, api.AtDevice, 0), api.ErrCut, nothing)
	if s := k.see(0, api.AtDevice).State; s != api.Down {
		t.Fatalf("P13.3: the device is in the state %d", s)
	}
	return k
}

// A row has the whole move, also what its kind doesn't use.
func TestRowHasTheMove(t *testing.T) {
	for kind := api.MoveWrite; kind <= api.MoveCut; kind++ {
		for _, s := range []api.Side{api.AtHost, api.AtDevice} {
			k := oneUp(t)
			m := api.Move{Kind: kind, Side: s, Frame: 3, At: 2, Word: 5, N: 6, Hold: true, Data: []byte{1, 2, 3}}
			if kind == api.MoveReset && s == api.AtHost {
				m.N = 0
			}
			if row, e := k.play(m); e != api.OK || !sameMove(row.Move, m) {
				t.Errorf("P17.2: the row of %+v has %+v, %d", m, row.Move, e)
			}
			k.holds()
		}
	}
}

// A row tells how both ends look behind its move, and See tells the same.
func TestRowHasTheEnds(t *testing.T) {
	k := with(t, seven, sets[1])
	for i, m := range []api.Move{send(0), give(0, api.AtDevice, 0), give(0, api.AtHost, 1), send(1), send(0), give(0, api.AtDevice, 3), give(0, api.AtHost, 4), send(0), give(0, api.AtDevice, 5), give(0, api.AtHost, 6), tick(0, api.AtHost, 3), tick(0, api.AtDevice, 4), give(1, api.AtDevice, 2)} {
		row, e := k.play(m)
		if e != api.OK {
			t.Fatalf("P17.2: move %d: %d", i, e)
		}
		k.looks(m.Conn, api.AtHost, row.Host)
		k.looks(m.Conn, api.AtDevice, row.Dev)
	}
	k.looks(0, api.AtHost, api.End{State: api.Running, Session: 1, Since: 3, Out: []byte{0}})
	k.looks(0, api.AtDevice, api.End{State: api.Running, Session: 1, Since: 4, Out: []byte{0, 0}})
	k.looks(1, api.AtHost, api.End{State: api.Idle, Out: make([]byte, 8)})
	k.looks(1, api.AtDevice, api.End{State: api.Offered, Session: 1, Out: []byte{0}})
	k.holds()
}

func TestWrites(t *testing.T) {
	k := oneUp(t)
	for n := range 12 {
		for _, hold := range []bool{false, true} {
			for s, wanted := range map[api.Side]int{api.AtHost: seven.Out, api.AtDevice: seven.In} {
				code := api.ErrLength
				if n == wanted {
					code = api.OK
				}
				row := k.plays(write(0, s, hold, value(n, 0x40)...), code, nothing)
				if !bytes.Equal(row.Move.Data, value(n, 0x40)) || row.Move.Hold != hold {
					t.Errorf("P17.2: the row has the move %+v", row.Move)
				}
			}
		}
	}
	// What is written goes over with the next exchange; hold makes the other end fail-safe.
	k.plays(write(0, api.AtHost, true, 0x11, 0x22), api.OK, nothing)
	k.plays(write(0, api.AtDevice, false, 0x33), api.OK, nothing)
	k.exchange(0)
	k.looks(0, api.AtHost, api.End{State: api.Running, Session: 1, Number: 2, Sent: 2, On: true, Out: []byte{0x33}})
	k.looks(0, api.AtDevice, api.End{State: api.Running, Session: 1, Number: 2, Sent: 2, Out: []byte{0, 0}})
	if u := k.unitOf(k.lastFrame() - 1); u.Kind != api.HostData || u.Flags != api.FlagHold || !bytes.Equal(u.Data, []byte{0x11, 0x22}) {
		t.Errorf("P17.2: the host has sent %+v", u)
	}
	long := write(0, api.AtHost, false, make([]byte, 5000)...)
	if row := k.plays(long, api.ErrLength, nothing); len(row.Move.Data) != 5000 {
		t.Errorf("P17.2: the row has %d bytes", len(row.Move.Data))
	}
	k.holds()
	k = downed(t)
	k.plays(write(0, api.AtDevice, false, 1), api.ErrCut, nothing)
	k.plays(write(0, api.AtDevice, false), api.ErrCut, nothing)
	k.plays(write(0, api.AtHost, false, 1, 2), api.OK, nothing)
	k.holds()
}

// Each frame has the next number, whoever sends it.
func TestSends(t *testing.T) {
	k := with(t, seven, sets[1])
	k.plays(send(0), api.OK, 0)
	k.plays(send(1), api.OK, 1)
	k.plays(send(0), api.OK, 2)
	k.plays(give(1, api.AtDevice, 1), api.OK, 3)
	k.plays(give(0, api.AtDevice, 2), api.OK, 4)
	k.plays(send(1), api.OK, 5)
	for i, want := range []api.Unit{{Kind: api.HostParam, Code: 7}, {Kind: api.HostParam, Code: 9}, {Kind: api.HostParam, Code: 7}, {Kind: api.DevOffer, Code: 9, Session: 1}, {Kind: api.DevOffer, Code: 7, Session: 1}, {Kind: api.HostParam, Code: 9}} {
		if u := k.unitOf(i); u.Kind != want.Kind || u.Code != want.Code || u.Session != want.Session {
			t.Errorf("P17.2: frame %d is %+v", i, u)
		}
	}
	k.holds()
	few := seven
	few.Count = 2
	k = with(t, few)
	k.settles(0, 3)
	k.exchange(0)
	row := k.plays(send(0), api.OK, k.w.Frames())
	if u := k.unitOf(row.Sent); u.Kind != api.HostLast || u.Number != 2 {
		t.Errorf("P8: the host's last frame is %+v", u)
	}
	for range 3 {
		k.plays(send(0), api.ErrDone, nothing)
	}
	k.holds()
}

// What comes to a device: an error may stand beside an answer.
func TestDeliveriesToADevice(t *testing.T) {
	k := oneUp(t)
	k.plays(give(0, api.AtDevice, 6), api.ErrStale, 8)
	if u := k.unitOf(8); u.Kind != api.DevNone || u.Session != 1 {
		t.Errorf("P17.2: the answer is %+v", u)
	}
	// A device's own frame, and one that is garbled, have no answer.
	k.plays(give(0, api.AtDevice, 7), api.ErrKind, nothing)
	k.plays(garble(0, api.AtDevice, 6, 0, 1), api.ErrCheck, nothing)
	k.plays(send(0), api.OK, 9)
	k.plays(give(0, api.AtDevice, 9), api.OK, 10)
	if u := k.unitOf(10); u.Kind != api.DevData || u.Number != 2 {
		t.Errorf("P17.2: the answer is %+v", u)
	}
	k.holds()
	k = downed(t)
	k.plays(give(0, api.AtDevice, 0), api.ErrCut, nothing)
	k.plays(garble(0, api.AtDevice, 0, 0, 1), api.ErrCut, nothing)
	k.holds()
	k = of(t, netOf(1, seven))
	k.settles(0, 3)
	k.plays(reset(0, api.AtDevice, 0), api.OK, nothing)
	k.plays(give(0, api.AtDevice, 0), api.ErrExhausted, 6)
	if u := k.unitOf(6); u.Kind != api.DevNone || u.Session != 0 {
		t.Errorf("P17.2: the answer is %+v", u)
	}
	k.holds()
}

// What comes to a host puts nothing into the bag.
func TestDeliveriesToAHost(t *testing.T) {
	k := oneUp(t)
	n := k.w.Frames()
	k.plays(give(0, api.AtHost, 7), api.ErrStale, nothing)
	k.plays(give(0, api.AtHost, 6), api.ErrKind, nothing)
	k.plays(garble(0, api.AtHost, 7, 9, 3), api.ErrCheck, nothing)
	k.plays(reset(0, api.AtHost, 0), api.OK, nothing)
	k.plays(give(0, api.AtHost, 1), api.OK, nothing)
	if k.w.Frames() != n {
		t.Errorf("P17.2: %d frames, not %d", k.w.Frames(), n)
	}
	k.holds()
}

// Two ends with one code and unlike sets, or with unlike codes, never come together.
func TestUnlikeSets(t *testing.T) {
	other := seven
	other.Watch++
	k := of(t, api.Net{Hosts: []api.Param{seven}, Devices: []api.Param{other}, MaxSession: 9})
	k.plays(send(0), api.OK, 0)
	k.plays(give(0, api.AtDevice, 0), api.ErrSignature, 1)
	k.plays(give(0, api.AtHost, 1), api.ErrStale, nothing)
	for range 20 {
		k.exchange(0)
	}
	k.looks(0, api.AtHost, api.End{State: api.Idle, Out: []byte{0}})
	k.looks(0, api.AtDevice, api.End{State: api.Idle, Out: []byte{0, 0}})
	k.holds()
	other = seven
	other.Code = 8
	k = of(t, api.Net{Hosts: []api.Param{seven}, Devices: []api.Param{other}, MaxSession: 9})
	k.plays(send(0), api.OK, 0)
	k.plays(give(0, api.AtDevice, 0), api.ErrCode, nothing)
	for range 20 {
		k.exchange(0)
	}
	k.looks(0, api.AtHost, api.End{State: api.Idle, Out: []byte{0}})
	k.looks(0, api.AtDevice, api.End{State: api.Idle, Out: []byte{0, 0}})
	k.holds()
}

// Each end's values have its own set's lengths, and its ticks its own watch.
func TestEachEndHasItsOwnSet(t *testing.T) {
	k := of(t, api.Net{Hosts: []api.Param{{Code: 7, Out: 3, In: 4, Watch: 2, Count: 9}}, Devices: []api.Param{{Code: 7, Out: 5, In: 6, Watch: 4, Count: 9}}, MaxSession: 9})
	k.plays(write(0, api.AtHost, false, value(3, 1)...), api.OK, nothing)
	k.plays(write(0, api.AtDevice, false, value(6, 1)...), api.OK, nothing)
	k.plays(write(0, api.AtHost, false, value(5, 1)...), api.ErrLength, nothing)
	k.plays(write(0, api.AtDevice, false, value(4, 1)...), api.ErrLength, nothing)
	for n := 1; n < 6; n++ {
		k.plays(tick(0, api.AtHost, 1), api.OK, nothing)
		k.plays(tick(0, api.AtDevice, 1), api.OK, nothing)
		if h, d := k.see(0, api.AtHost), k.see(0, api.AtDevice); (h.Latched == api.ErrWatchdog) != (n >= 2) || (d.Latched == api.ErrWatchdog) != (n >= 4) || len(h.Out) != 4 || len(d.Out) != 5 {
			t.Errorf("P17.2: behind %d ticks: %+v, %+v", n, h, d)
		}
	}
	k.holds()
}

func TestTicksAndAcks(t *testing.T) {
	k := oneUp(t)
	for _, s := range []api.Side{api.AtHost, api.AtDevice} {
		k.plays(ack(0, s), api.ErrRequest, nothing)
		k.plays(tick(0, s, 9), api.OK, nothing)
		if got := k.see(0, s); got.Since != 9 || !got.On {
			t.Errorf("P17.2: behind 9 ticks: %+v", got)
		}
		k.plays(tick(0, s, 0), api.OK, nothing)
		k.plays(tick(0, s, 1), api.OK, nothing)
		if got := k.see(0, s); got.Since != 10 || got.On || got.Latched != api.ErrWatchdog {
			t.Errorf("P5: behind 10 ticks: %+v", got)
		}
		k.plays(ack(0, s), api.ErrRequest, nothing)
	}
	k.plays(send(0), api.OK, 8)
	k.plays(give(0, api.AtDevice, 8), api.OK, 9)
	k.plays(ack(0, api.AtHost), api.ErrRequest, nothing)
	k.plays(ack(0, api.AtDevice), api.OK, nothing)
	k.plays(give(0, api.AtHost, 9), api.OK, nothing)
	k.plays(ack(0, api.AtHost), api.OK, nothing)
	k.plays(ack(0, api.AtHost), api.ErrRequest, nothing)
	k.holds()
	k = downed(t)
	k.plays(tick(0, api.AtDevice, 5), api.ErrCut, nothing)
	k.plays(ack(0, api.AtDevice), api.ErrCut, nothing)
	k.plays(tick(0, api.AtHost, 5), api.OK, nothing)
	k.holds()
}

// The device's memory has one word: its opening writes the other, and may be cut at each of its six writes.
func TestResetsAndCuts(t *testing.T) {
	for n := range 9 {
		k := oneUp(t)
		code, state := api.OK, api.Idle
		if n >= 1 && n <= 6 {
			code, state = api.ErrCut, api.Down
		}
		if row := k.plays(reset(0, api.AtDevice, n), code, nothing); row.Dev.State != state || row.Host.State != api.Running {
			t.Errorf("P17.2: a reset with %d: %+v", n, row)
		}
		k.holds()
		// The seventh write is the first of a session.
		if n == 7 {
			k.plays(give(0, api.AtDevice, 0), api.ErrCut, nothing)
		}
		k.plays(reset(0, api.AtDevice, 0), api.OK, nothing)
		k.plays(give(0, api.AtDevice, 0), api.OK, 8)
		if got := k.see(0, api.AtDevice).Session; got != 2 {
			t.Errorf("P7: behind a reset with %d the session is %d", n, got)
		}
		k.holds()
	}
	for n := range 8 {
		k := with(t, seven)
		k.plays(send(0), api.OK, 0)
		k.plays(cut(0, n), api.OK, nothing)
		code, sent := api.ErrCut, nothing
		if n >= 6 {
			code, sent = api.OK, 1
		}
		k.plays(give(0, api.AtDevice, 0), code, sent)
		k.holds()
	}
	// A later cut takes the place of an earlier one, and a reset takes it back.
	k := with(t, seven)
	k.plays(send(0), api.OK, 0)
	k.plays(cut(0, 0), api.OK, nothing)
	k.plays(cut(0, 6), api.OK, nothing)
	k.plays(give(0, api.AtDevice, 0), api.OK, 1)
	k.plays(cut(0, 0), api.OK, nothing)
	k.plays(reset(0, api.AtDevice, 0), api.OK, nothing)
	k.plays(give(0, api.AtDevice, 0), api.OK, 2)
	k.holds()
}

// A host's new life.
func TestResetOfAHost(t *testing.T) {
	k := oneUp(t)
	row := k.plays(reset(0, api.AtHost, 0), api.OK, nothing)
	if !sameEnd(row.Host, api.End{State: api.Idle, Out: []byte{0}}) || !row.Dev.On {
		t.Errorf("P17.2: a reset of the host: %+v", row)
	}
	k.plays(send(0), api.OK, 8)
	if u := k.unitOf(8); u.Kind != api.HostParam {
		t.Errorf("P17.2: behind its reset the host sends %+v", u)
	}
	k.holds()
}

// A cut is of one device alone, and each device has a memory of its own.
func TestMemories(t *testing.T) {
	k := with(t, sets[:3]...)
	for conn := range 3 {
		k.plays(send(conn), api.OK, conn)
	}
	k.plays(cut(1, 0), api.OK, nothing)
	k.plays(give(0, api.AtDevice, 0), api.OK, 3)
	k.plays(give(1, api.AtDevice, 1), api.ErrCut, nothing)
	for conn, want := range [][]byte{{0xa5, 0, 0, 0, 1}, nil, nil} {
		if got, e := k.w.Memory(conn); e != api.OK || !bytes.Equal(got, append(want, make([]byte, 16-len(want))...)) {
			t.Errorf("P17.3: Memory(%d): % x, %d", conn, got, e)
		}
	}
	k.plays(give(2, api.AtDevice, 2), api.OK, 4)
	k.plays(cut(2, 3), api.OK, nothing)
	k.plays(reset(0, api.AtDevice, 0), api.OK, nothing)
	for conn, want := range [][]byte{{0xa5, 0, 0, 0, 1, 0xa5, 0, 0, 0, 1}, nil, {0xa5, 0, 0, 0, 1}} {
		if got, e := k.w.Memory(conn); e != api.OK || !bytes.Equal(got, append(want, make([]byte, 16-len(want))...)) {
			t.Errorf("P17.3: Memory(%d): % x, %d", conn, got, e)
		}
	}
	k.holds()
}
