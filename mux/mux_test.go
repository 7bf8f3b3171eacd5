package mux_test

import (
	"bytes"
	"slices"
	"testing"

	"parapet/api"
	"parapet/device"
	"parapet/mem"
	"parapet/mux"
	"parapet/unit"
)

func TestChapterExamples(t *testing.T) {
	m := mux.New()
	a, _ := newDevice(t, seven)
	b, _ := newDevice(t, nine)
	if e := m.Add(a); e != api.OK {
		t.Errorf("P16.1: Add of the code 7: %d", e)
	}
	if e := m.Add(b); e != api.OK {
		t.Errorf("P16.1: Add of the code 9: %d", e)
	}
	code, answer, e := m.Receive(encode(t, wish(nine)))
	want := encode(t, api.Unit{Kind: api.DevOffer, Code: 9, Session: 1, Data: signature(nine)})
	if code != 9 || !bytes.Equal(answer, want) || e != api.OK {
		t.Errorf("P16.2: a HostParam for 9: %d, % x, %d", code, answer, e)
	}
	if m.Seen(9) != 1 || m.Seen(7) != 0 {
		t.Errorf("P16.3: Seen: %d, %d, not 1, 0", m.Seen(9), m.Seen(7))
	}
	if code, answer, e := m.Receive(encode(t, wish(nobody))); code != 0 || len(answer) != 0 || e != api.ErrCode {
		t.Errorf("P16.2: a frame for 8: %d, % x, %d", code, answer, e)
	}
	if m.Lost() != 1 {
		t.Errorf("P16.3: Lost: %d, not 1", m.Lost())
	}
	if code, answer, e := m.Receive(garbled(t, wish(nine))); code != 0 || len(answer) != 0 || e != api.ErrCheck {
		t.Errorf("P16.2: a garbled one: %d, % x, %d", code, answer, e)
	}
	if m.Lost() != 2 {
		t.Errorf("P16.3: Lost: %d, not 2", m.Lost())
	}
	other, _ := newDevice(t, seven)
	if e := m.Add(other); e != api.ErrTwice {
		t.Errorf("P16.1: a second device with the code 7: %d", e)
	}
	if got := m.Codes(); !slices.Equal(got, []uint32{7, 9}) {
		t.Errorf("P16.3: Codes: %d", got)
	}
}

func TestEmpty(t *testing.T) {
	k := with(t)
	k.holds()
	for _, n := range []int{0, 1, 100, top, -1, least} {
		k.tick(n)
	}
	k.holds()
	k.hears(wish(seven), 0, api.ErrCode)
	for _, b := range strange(t, 7) {
		k.hear(b)
	}
	k.holds()
	if k.m.Lost() != 10 || len(k.m.Codes()) != 0 || len(k.m.On()) != 0 {
		t.Errorf("P16.3: an empty mux: %d lost, %d, %d", k.m.Lost(), k.m.Codes(), k.m.On())
	}
}

func TestAdd(t *testing.T) {
	k := with(t)
	for i, p := range sets {
		x := newEnd(t, p)
		k.add(x)
		k.holds()
		// The same device again, another with its code, and one with its code and an unlike set.
		other := p
		other.Out, other.Watch = 1+p.Out%8, 1+p.Watch%100
		for _, again := range []*end{x, newEnd(t, p), newEnd(t, other)} {
			k.add(again)
			k.holds()
		}
		if e := k.m.Add(nil); e != api.ErrNil {
			t.Errorf("R2: Add(nil) to %d devices: %d", i+1, e)
		}
		// It is the first one that hangs there.
		k.hears(wish(p), api.DevOffer, api.OK)
		k.holds()
	}
	if got := len(k.m.Codes()); got != 8 {
		t.Fatalf("P16.1: %d devices, not 8", got)
	}
	// One more, with another code, and with one that is there: ErrTwice is named first (R2).
	for _, p := range append([]api.Param{nobody, {Code: 2, Out: 1, In: 1, Watch: 1, Count: 2}}, sets[:]...) {
		k.add(newEnd(t, p))
		k.holds()
	}
	full, _ := newDevice(t, nobody)
	if e := k.m.Add(full); e != api.ErrFull {
		t.Errorf("P16.1: the ninth: %d, not %d", e, api.ErrFull)
	}
	twice, _ := newDevice(t, seven)
	if e := k.m.Add(twice); e != api.ErrTwice {
		t.Errorf("R2: a code that is there, in a full mux: %d, not %d", e, api.ErrTwice)
	}
	if e := k.m.Add(nil); e != api.ErrNil {
		t.Errorf("R2: Add(nil) to a full mux: %d, not %d", e, api.ErrNil)
	}
	// What was refused hangs nowhere: its frames are lost.
	k.hears(wish(nobody), 0, api.ErrCode)
	if s := full.See().State; s != api.Idle {
		t.Errorf("R4: a device that was refused: %d", s)
	}
	k.holds()
}

// A device that was refused isn't ticked, and hears nothing.
func TestRefusedIsLeftAlone(t *testing.T) {
	k := with(t, seven)
	refused, _ := newDevice(t, seven)
	k.m.Add(refused)
	was := refused.See()
	k.turnOn(seven, 1)
	k.tick(5)
	k.holds()
	if got := refused.See(); !sameEnd(got, was) {
		t.Errorf("R4: a refused device: %+v, not %+v", got, was)
	}
}

// A device is kept, not copied: what is done to it elsewhere is seen here, ahead of Add and behind it.
func TestUsedElsewhere(t *testing.T) {
	k := with(t, nine)
	x := newEnd(t, seven)
	told := func(u api.Unit) {
		frame := encode(t, u)
		x.elsewhere(func(d *device.Device, _ *mem.Mem) { d.Receive(frame) })
	}
	told(wish(seven))
	told(echo(seven, 1))
	k.add(x)
	k.holds()
	k.hears(start(seven, 1), api.DevStarted, api.OK)
	told(data(seven, 1, 1, 0x30))
	k.holds()
	if got := k.m.On(); !slices.Equal(got, []uint32{7}) || k.m.Seen(7) != 1 {
		t.Errorf("P16.1: turned on elsewhere: On %d, Seen %d", got, k.m.Seen(7))
	}
	k.hears(data(seven, 1, 1, 0x30), api.DevNone, api.ErrStale)
	x.elsewhere(func(d *device.Device, _ *mem.Mem) { d.Write([]byte{0x77}, true) })
	answer, _ := k.hear(encode(t, data(seven, 1, 2, 0x31)))
	if u, _ := unit.Decode(answer); u.Flags != api.FlagHold || !bytes.Equal(u.Data, []byte{0x77}) {
		t.Errorf("P16.1: written elsewhere: %+v", u)
	}
	x.elsewhere(func(d *device.Device, _ *mem.Mem) { d.Tick(10) })
	k.holds()
	if got := k.m.On(); len(got) != 0 {
		t.Errorf("P16.1: ticked elsewhere: On %d", got)
	}
	k.hears(data(seven, 1, 3, 0x32), api.DevData, api.OK)
	x.elsewhere(func(d *device.Device, _ *mem.Mem) { d.Ack() })
	k.hears(data(seven, 1, 4, 0x33), api.DevData, api.OK)
	if got := k.m.On(); !slices.Equal(got, []uint32{7}) {
		t.Errorf("P16.1: acknowledged elsewhere: On %d", got)
	}
	x.elsewhere(func(d *device.Device, _ *mem.Mem) { d.Reset(0) })
	k.holds()
	if got := k.m.On(); len(got) != 0 {
		t.Errorf("P16.1: reset elsewhere: On %d", got)
	}
	k.hears(data(seven, 1, 5, 0x34), api.DevNone, api.ErrStale)
	// What the mux does to it is seen elsewhere.
	k.turnOn(seven, 2)
	if got := x.hung.See(); !got.On || got.Session != 2 {
		t.Errorf("P16.1: the device itself: %+v", got)
	}
	k.holds()
}

// One device on two channels: it is one, and each counts what came over it.
func TestOneDeviceOnTwo(t *testing.T) {
	d, _ := newDevice(t, seven)
	a, b := mux.New(), mux.New()
	if a.Add(d) != api.OK || b.Add(d) != api.OK {
		t.Fatal("P16.1: one device on two channels")
	}
	for i, u := range []api.Unit{wish(seven), echo(seven, 1), start(seven, 1), data(seven, 1, 1, 5)} {
		m := []*mux.Mux{a, b}[i%2]
		if code, _, e := m.Receive(encode(t, u)); code != 7 || e != api.OK {
			t.Fatalf("P16.2: %+v: %d, %d", u, code, e)
		}
	}
	for _, m := range []*mux.Mux{a, b} {
		if m.Seen(7) != 2 || m.Lost() != 0 || !slices.Equal(m.On(), []uint32{7}) {
			t.Errorf("P16.3: Seen %d, Lost %d, On %d", m.Seen(7), m.Lost(), m.On())
		}
	}
	// The ticks of both are its own.
	a.Tick(4)
	b.Tick(5)
	if got := d.See(); got.Since != 9 || !got.On {
		t.Errorf("P16.3: behind 4 and 5 ticks: %+v", got)
	}
	b.Tick(1)
	if len(a.On()) != 0 || len(b.On()) != 0 {
		t.Errorf("P16.3: behind a fault: On %d, %d", a.On(), b.On())
	}
}

// A device that device.New has not made: nothing is promised of it but that no call panics.
func TestDeviceNotMade(t *testing.T) {
	k := with(t, seven)
	k.m.Add(&device.Device{})
	// No frame is for the code 0: each stays lost.
	for want, b := range strange(t, 7) {
		if code, _, e := k.m.Receive(b); code != 0 || e != want {
			t.Errorf("P16.2: Receive(% x): %d, %d, not %d", b, code, e, want)
		}
	}
	k.m.Tick(3)
	if n := k.m.Seen(0); n != 0 || len(k.m.On()) != 0 || k.m.Lost() != 9 || !slices.Contains(k.m.Codes(), 7) {
		t.Errorf("P1: Seen %d, On %d, Lost %d, Codes %d", n, k.m.On(), k.m.Lost(), k.m.Codes())
	}
}

// One that New has not made: likewise.
func TestNotMade(t *testing.T) {
	m := &mux.Mux{}
	d, _ := newDevice(t, seven)
	m.Add(d)
	m.Add(d)
	m.Add(nil)
	m.Receive(encode(t, wish(seven)))
	m.Receive(nil)
	m.Tick(1)
	m.Tick(-1)
	if n := m.Seen(7); n < 0 || m.Lost() < 0 || len(m.Codes()) > 1 || len(m.On()) > 0 {
		t.Errorf("P1: one that New has not made: %d, %d", n, m.Lost())
	}
}

func TestNil(t *testing.T) {
	var none *mux.Mux
	d, _ := newDevice(t, seven)
	for _, x := range []*device.Device{d, nil, {}} {
		if e := none.Add(x); e != api.ErrNil {
			t.Errorf("R2: nil: Add: %d", e)
		}
	}
	frames := [][]byte{nil, {}, encode(t, wish(seven)), garbled(t, wish(seven)), make([]byte, 40)}
	for _, b := range frames {
		if code, answer, e := none.Receive(b); code != 0 || len(answer) != 0 || e != api.ErrNil {
			t.Errorf("R2: nil: Receive(% x): %d, % x, %d", b, code, answer, e)
		}
	}
	for _, n := range []int{0, 1, -1, least, top} {
		if e := none.Tick(n); e != api.ErrNil {
			t.Errorf("R2: nil: Tick(%d): %d", n, e)
		}
	}
	if got := none.Codes(); len(got) != 0 {
		t.Errorf("R7: nil: Codes: %d", got)
	}
	if got := none.On(); len(got) != 0 {
		t.Errorf("R7: nil: On: %d", got)
	}
	for _, code := range []uint32{0, 7, greatest} {
		if got := none.Seen(code); got != 0 {
			t.Errorf("R7: nil: Seen(%d): %d", code, got)
		}
	}
	if got := none.Lost(); got != 0 {
		t.Errorf("R7: nil: Lost: %d", got)
	}
}

// Added in any order of codes, they are told rising.
func TestCodesRise(t *testing.T) {
	orders := 0
	for first := range sets {
		for _, by := range []int{1, 3, 5, 7} {
			k := with(t)
			for i := range sets {
				k.add(newEnd(t, sets[(first+by*i)%len(sets)]))
				k.counts()
			}
			if got := k.m.Codes(); !slices.Equal(got, []uint32{1, 7, 9, 256, 1 << 16, 1 << 24, 1 << 31, greatest}) {
				t.Errorf("P16.3: Codes: %d", got)
			}
			// On likewise, in whatever order they come on.
			for i := range sets {
				k.turnOn(sets[(first+5*i)%len(sets)], 1)
				k.counts()
			}
			if got := k.m.On(); !slices.Equal(got, k.m.Codes()) {
				t.Errorf("P16.3: On: %d", got)
			}
			orders++
		}
	}
	if orders != 32 {
		t.Errorf("too little was tried: %d", orders)
	}
}
