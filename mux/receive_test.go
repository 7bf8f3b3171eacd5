package mux_test

import (
	"slices"
	"testing"

	"parapet/api"
	"parapet/burst"
	"parapet/device"
	"parapet/mem"
	"parapet/unit"
)

// Each error of unit.Decode: the frame is lost, whether its code's device is there or not, and no device has anything of it.
func TestReceiveWhatIsNoUnit(t *testing.T) {
	for _, code := range []uint32{7, 8, 9} {
		k := with(t, seven, nine)
		k.turnOn(seven, 1)
		lost := 0
		for want, b := range strange(t, code) {
			got, answer, e := k.m.Receive(b)
			k.lost++
			lost++
			if got != 0 || len(answer) != 0 || e != want {
				t.Errorf("P16.2, R3: Receive(% x): %d, % x, %d, not %d", b, got, answer, e, want)
			}
			k.holds()
			if k.m.Lost() != lost || k.m.Seen(7) != 4 || k.m.Seen(9) != 0 {
				t.Errorf("P16.3: behind %d lost: %d, Seen %d, %d", lost, k.m.Lost(), k.m.Seen(7), k.m.Seen(9))
			}
		}
		for _, b := range [][]byte{nil, {}, {1}, make([]byte, 18), make([]byte, 19), make([]byte, 28), make([]byte, 5000)} {
			k.hear(b)
			k.holds()
		}
		// Not even a record is made of it: no device has heard it.
		if log, n := k.ends[7].hung.Log(); n != 0 {
			t.Errorf("P16.4: the device 7 noted %v", log)
		}
		if lost != 9 || k.m.Lost() != 16 {
			t.Errorf("P16.3: Lost: %d, not 16", k.m.Lost())
		}
	}
}

// A frame for a code that isn't there: every kind of unit.
func TestReceiveForNobody(t *testing.T) {
	k := with(t, seven, nine)
	k.turnOn(seven, 1)
	lost := 0
	for _, code := range []uint32{1, 6, 8, 10, 7 << 8, 7 << 24, greatest, greatest - 7} {
		for _, u := range allKinds() {
			u.Code = code
			got, answer, e := k.m.Receive(encode(t, u))
			k.lost++
			lost++
			if got != 0 || len(answer) != 0 || e != api.ErrCode {
				t.Errorf("P16.2, R3: Receive of %+v: %d, % x, %d, not %d", u, got, answer, e, api.ErrCode)
			}
			k.holds()
		}
	}
	if lost != 88 || k.m.Lost() != 88 || k.m.Seen(8) != 0 {
		t.Errorf("P16.3: Lost %d, not 88; Seen(8) %d", k.m.Lost(), k.m.Seen(8))
	}
}

// allKinds: a lawful unit of each kind, but for its code.
func allKinds() []api.Unit {
	four, two := []byte{1, 2, 3, 4}, []byte{5, 6}
	return []api.Unit{
		{Kind: api.HostParam, Data: four}, {Kind: api.HostEcho, Session: 1, Data: four}, {Kind: api.HostStart, Session: 1},
		{Kind: api.HostData, Session: 1, Number: 2, Data: two}, {Kind: api.HostLast, Session: 1, Number: 3},
		{Kind: api.DevOffer, Session: 1, Data: four}, {Kind: api.DevAgreed, Session: 1}, {Kind: api.DevStarted, Session: 1},
		{Kind: api.DevData, Session: 1, Number: 2, Data: two}, {Kind: api.DevLast, Session: 1, Number: 3}, {Kind: api.DevNone},
	}
}

// holdRefused: the device refuses the unit; the code stands beside its error, and the frame is seen, not lost.
func (k *bench) holdRefused(u api.Unit, kind api.Kind, want api.Errno) {
	k.t.Helper()
	seen, lost := k.m.Seen(u.Code), k.m.Lost()
	code, answer, e := k.m.Receive(encode(k.t, u))
	x := k.ends[u.Code]
	x.seen++
	x.lone.Receive(encode(k.t, u))
	back, _ := unit.Decode(answer)
	if code != u.Code || e != want || back.Kind != kind || (kind == 0) != (len(answer) == 0) {
		k.t.Fatalf("P16.2: Receive of %+v: %d, % x, %d, not %d, the kind %d, %d", u, code, answer, e, u.Code, kind, want)
	}
	if kind != 0 && back.Code != u.Code {
		k.t.Fatalf("P16.2: the answer to %+v: %+v", u, back)
	}
	if k.m.Seen(u.Code) != seen+1 || k.m.Lost() != lost {
		k.t.Fatalf("P16.3: a frame that the device refuses: Seen %d behind %d, Lost %d behind %d", k.m.Seen(u.Code), seen, k.m.Lost(), lost)
	}
	k.holds()
}

func TestReceiveRefused(t *testing.T) {
	k := with(t, seven, nine)
	odd := wish(nine)
	k.hears(wish(seven), api.DevOffer, api.OK)
	// The signature of another set.
	odd.Code = 7
	k.holdRefused(odd, api.DevNone, api.ErrSignature)
	k.holdRefused(wish(seven), api.DevOffer, api.ErrStale)
	k.holdRefused(echo(seven, 2), api.DevNone, api.ErrStale)
	k.hears(echo(seven, 1), api.DevAgreed, api.OK)
	k.holdRefused(data(seven, 1, 1, 5), api.DevNone, api.ErrStale)
	k.hears(start(seven, 1), api.DevStarted, api.OK)
	k.hears(data(seven, 1, 1, 5), api.DevData, api.OK)
	k.holdRefused(data(seven, 1, 1, 5), api.DevNone, api.ErrStale)
	if got := k.m.On(); !slices.Equal(got, []uint32{7}) {
		t.Errorf("P16.3: On: %d", got)
	}
	// What devices send is for none of them, their own frames too.
	for _, u := range allKinds() {
		if u.Code = 7; unit.FromDevice(u.Kind) {
			k.holdRefused(u, 0, api.ErrKind)
		}
	}
	k.holdRefused(start(nine, 1), api.DevNone, api.ErrStale)
	k.holdRefused(data(nine, 1, 1, 5), api.DevNone, api.ErrStale)
}

func TestReceiveWithoutASessionLeft(t *testing.T) {
	k := with(t, nine, seven)
	for session := range uint32(9) {
		k.hears(wish(seven), api.DevOffer, api.OK)
		if got := k.ends[7].hung.See().Session; got != session+1 {
			t.Fatalf("P13.3: session %d, not %d", got, session+1)
		}
		k.ends[7].elsewhere(func(d *device.Device, _ *mem.Mem) { d.Reset(0) })
	}
	k.holdRefused(wish(seven), api.DevNone, api.ErrExhausted)
	k.holdRefused(wish(seven), api.DevNone, api.ErrExhausted)
	k.hears(wish(nine), api.DevOffer, api.OK)
	k.holds()
}

// The power goes while a frame is received; a device that is Down answers nothing, and is seen for all that.
func TestReceiveDown(t *testing.T) {
	for cut := range 6 {
		k := with(t, seven, nine)
		k.turnOn(nine, 1)
		k.ends[7].elsewhere(func(_ *device.Device, m *mem.Mem) { m.Arm(cut) })
		if cut < 5 {
			k.holdRefused(wish(seven), 0, api.ErrCut)
		} else {
			k.hear(encode(t, wish(seven)))
		}
		for _, u := range allKinds() {
			u.Code = 7
			k.hear(encode(t, u))
			k.holds()
		}
		if k.ends[7].hung.See().State == api.Down {
			k.holdRefused(wish(seven), 0, api.ErrCut)
			k.holdRefused(data(seven, 1, 1, 1), 0, api.ErrCut)
		}
		// The other one goes on.
		k.hears(data(nine, 1, 2, 9), api.DevData, api.OK)
		k.hear(garbled(t, wish(seven)))
		k.ends[7].elsewhere(func(d *device.Device, _ *mem.Mem) { d.Reset(0) })
		k.holds()
		k.hears(wish(seven), api.DevOffer, api.OK)
		k.holds()
	}
}

// A whole handshake and data units of two devices, in turns.
func TestReceiveInTurns(t *testing.T) {
	k := with(t, seven, nine)
	two := []api.Param{seven, nine}
	for _, step := range []struct {
		u    func(p api.Param) api.Unit
		kind api.Kind
	}{
		{wish, api.DevOffer},
		{func(p api.Param) api.Unit { return echo(p, 1) }, api.DevAgreed},
		{func(p api.Param) api.Unit { return start(p, 1) }, api.DevStarted},
	} {
		for _, p := range two {
			k.hears(step.u(p), step.kind, api.OK)
			k.holds()
		}
	}
	if got := k.m.On(); len(got) != 0 {
		t.Errorf("P16.3: On ahead of a data unit: %d", got)
	}
	for n := range uint32(8) {
		for _, p := range two {
			first := byte(16*n) + byte(p.Code)
			k.hears(data(p, 1, n+1, first), api.DevData, api.OK)
			k.holds()
			if got := k.ends[p.Code].hung.See(); !got.On || got.Out[0] != first || got.Number != n+1 {
				t.Errorf("P16.2: the device %d: %+v", p.Code, got)
			}
		}
	}
	// Each for itself: 7 has no number left, 9 has.
	k.hears(last(seven, 1), api.DevLast, api.OK)
	k.hears(data(nine, 1, 9, 1), api.DevData, api.OK)
	k.holds()
	if got := k.m.On(); !slices.Equal(got, []uint32{9}) || k.m.Seen(7) != 12 || k.m.Seen(9) != 12 || k.m.Lost() != 0 {
		t.Errorf("P16.3: On %d, Seen %d, %d, Lost %d", got, k.m.Seen(7), k.m.Seen(9), k.m.Lost())
	}
}

// The same unit under the other's code is another's: it brings neither on.
func TestReceiveUnderAnotherCode(t *testing.T) {
	same := seven
	same.Code = 9
	k := with(t, seven, same)
	k.turnOn(seven, 1)
	u := data(seven, 1, 2, 5)
	u.Code = 9
	k.holdRefused(u, api.DevNone, api.ErrStale)
	if got := k.m.On(); !slices.Equal(got, []uint32{7}) {
		t.Errorf("P16.3: On: %d", got)
	}
	k.hears(data(seven, 1, 2, 5), api.DevData, api.OK)
	// Nor does a signature go by another code.
	u = wish(seven)
	u.Code = 9
	k.holdRefused(u, api.DevNone, api.ErrSignature)
}

// A burst in the code's bytes doesn't bring a frame to another device: it is lost.
func TestReceiveGarbled(t *testing.T) {
	k := with(t, sets[:]...)
	k.turnOn(seven, 1)
	frame := encode(t, data(seven, 1, 2, 5))
	tried := 0
	for _, word := range []uint32{1, 3, 14, 0xe, 0x80000001, 0xffffffff} {
		for at := range 8 * len(frame) {
			pattern, e := burst.Make(len(frame), at, word)
			if e != api.OK {
				continue
			}
			turned, _ := burst.Turn(frame, pattern)
			code, answer, e := k.m.Receive(turned)
			k.lost++
			tried++
			if code != 0 || len(answer) != 0 || e != api.ErrCheck {
				t.Fatalf("P16.2, P6: garbled by %x at %d: %d, % x, %d", word, at, code, answer, e)
			}
		}
	}
	k.holds()
	k.hears(data(seven, 1, 2, 5), api.DevData, api.OK)
	if tried < 700 || k.m.Lost() != tried {
		t.Errorf("P16.3: Lost %d of %d", k.m.Lost(), tried)
	}
}

// Many frames: the counts go on.
func TestCountsGoOn(t *testing.T) {
	k := with(t, seven, nine)
	stale, none := encode(t, start(seven, 5)), encode(t, wish(nobody))
	for range 5000 {
		k.m.Receive(stale)
		k.m.Receive(none)
		k.m.Receive(stale)
	}
	if k.m.Seen(7) != 10000 || k.m.Seen(9) != 0 || k.m.Seen(8) != 0 || k.m.Lost() != 5000 {
		t.Errorf("P16.3: Seen %d, %d, %d, Lost %d", k.m.Seen(7), k.m.Seen(9), k.m.Seen(8), k.m.Lost())
	}
}

// Seen counts from Add on: what came ahead of it was lost.
func TestSeenBeginsWithAdd(t *testing.T) {
	k := with(t, nine)
	for range 3 {
		k.hears(wish(seven), 0, api.ErrCode)
	}
	k.add(newEnd(t, seven))
	k.holds()
	k.hears(wish(seven), api.DevOffer, api.OK)
	k.holds()
	if k.m.Seen(7) != 1 || k.m.Lost() != 3 {
		t.Errorf("P16.3: Seen %d, Lost %d, not 1, 3", k.m.Seen(7), k.m.Lost())
	}
}
