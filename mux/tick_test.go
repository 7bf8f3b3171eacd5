package mux_test

import (
	"slices"
	"testing"

	"parapet/api"
	"parapet/device"
	"parapet/mem"
)

// since: the ticks that each device of a bench has counted, by its code.
func (k *bench) since() map[uint32]int {
	list := map[uint32]int{}
	for code, x := range k.ends {
		list[code] = x.hung.See().Since
	}
	return list
}

func TestTickRange(t *testing.T) {
	for _, k := range []*bench{with(t), with(t, seven), with(t, sets[:]...)} {
		k.tick(2)
		was := k.since()
		for _, n := range []int{-1, -2, least, least + 1} {
			if e := k.m.Tick(n); e != api.ErrRange {
				t.Errorf("P16.3: Tick(%d): %d, not %d", n, e, api.ErrRange)
			}
			k.holds()
		}
		if e := k.m.Tick(0); e != api.OK {
			t.Errorf("P16.3: Tick(0): %d", e)
		}
		k.holds()
		for code, n := range k.since() {
			if n != was[code] {
				t.Errorf("R4: the device %d: %d ticks, not %d", code, n, was[code])
			}
		}
	}
}

// Each device has each tick, as far as its watchdog counts.
func TestTickEach(t *testing.T) {
	k := with(t, sets[:]...)
	for n := 1; n <= 25; n++ {
		k.tick(1)
		k.holds()
		for _, p := range sets {
			if got := k.ends[p.Code].hung.See(); got.Since != min(n, p.Watch) {
				t.Errorf("P16.3: behind %d ticks the device %d has counted %d", n, p.Code, got.Since)
			}
		}
	}
}

// As many as bring a watchdog to its limit, one by one and at once; each device goes by its own.
func TestTickToTheLimit(t *testing.T) {
	for _, atOnce := range []bool{false, true} {
		k := with(t, seven, nine, sets[5])
		for _, p := range []api.Param{seven, nine, sets[5]} {
			k.turnOn(p, 1)
		}
		k.holdOn(7, 9, 1<<16)
		step := func(n int) {
			for range n {
				if !atOnce {
					k.tick(1)
				}
			}
			if atOnce {
				k.tick(n)
			}
			k.holds()
		}
		step(2)
		k.holdOn(7, 9, 1<<16)
		step(1)
		k.holdOn(7, 1<<16)
		if got := k.ends[9].hung.See(); got.Latched != api.ErrWatchdog || got.Since != 3 {
			t.Errorf("P16.3: at its limit: %+v", got)
		}
		step(6)
		k.holdOn(7, 1<<16)
		step(1)
		k.holdOn(1 << 16)
		step(1000)
		k.holdOn(1 << 16)
		// A fresh unit alone doesn't turn it on: the operator has to.
		k.hears(data(seven, 1, 2, 1), api.DevData, api.OK)
		k.holdOn(1 << 16)
		k.ends[7].elsewhere(func(d *device.Device, _ *mem.Mem) { d.Ack() })
		k.holdOn(1 << 16)
		k.hears(data(seven, 1, 3, 1), api.DevData, api.OK)
		k.holdOn(7, 1<<16)
		k.holds()
	}
}

// holdOn: just these are on.
func (k *bench) holdOn(codes ...uint32) {
	k.t.Helper()
	if got := k.m.On(); !slices.Equal(got, codes) {
		k.t.Fatalf("P16.3: On: %d, not %d", got, codes)
	}
}

func TestTickTheGreatest(t *testing.T) {
	for _, n := range []int{top, top - 1, 1 << 32, api.MaxTicks} {
		k := with(t, sets[:]...)
		for _, p := range sets {
			k.turnOn(p, 1)
		}
		k.counts()
		k.tick(n)
		k.tick(n)
		k.holds()
		k.holdOn()
		for _, p := range sets {
			if got := k.ends[p.Code].hung.See(); got.Since != p.Watch || got.Latched != api.ErrWatchdog {
				t.Errorf("P16.3: Tick(%d): the device %d: %+v", n, p.Code, got)
			}
		}
	}
}

// One that is Down passes over the ticks; the others have them.
func TestTickWithOneDown(t *testing.T) {
	for down := range 3 {
		k := with(t, seven, nine, sets[3])
		three := []api.Param{seven, nine, sets[3]}
		for _, p := range three {
			k.turnOn(p, 1)
		}
		p := three[down]
		k.ends[p.Code].elsewhere(func(d *device.Device, _ *mem.Mem) { d.Reset(0) })
		k.bringDown(p)
		k.holds()
		k.tick(2)
		k.holds()
		for _, q := range three {
			want := 2
			if q.Code == p.Code {
				want = 0
			}
			if got := k.ends[q.Code].hung.See().Since; got != want {
				t.Errorf("P16.3: %d Down: the device %d has counted %d, not %d", p.Code, q.Code, got, want)
			}
		}
		for _, n := range []int{0, 1, 100, top} {
			k.tick(n)
			k.holds()
		}
		if e := k.m.Tick(-1); e != api.ErrRange {
			t.Errorf("P16.3: Tick(-1) with one Down: %d", e)
		}
		// Nothing is latched in it: its watchdog stood still.
		k.ends[p.Code].elsewhere(func(d *device.Device, _ *mem.Mem) { d.Reset(0) })
		if got := k.ends[p.Code].hung.See(); got.Latched != api.OK || got.Since != 0 {
			t.Errorf("P16.3: behind ticks while it was Down: %+v", got)
		}
		k.tick(1)
		k.holds()
	}
	// All of them.
	k := with(t, seven, nine)
	k.bringDown(seven)
	k.bringDown(nine)
	k.tick(5)
	k.holds()
}

// Calls that answer an error leave the lists and the other counts as they were.
func TestListsBehindErrors(t *testing.T) {
	k := with(t, seven, nine)
	k.turnOn(nine, 1)
	for range 3 {
		k.m.Add(nil)
		k.add(newEnd(t, seven))
		k.tick(-1)
		k.hear(garbled(t, wish(seven)))
		k.hears(wish(nobody), 0, api.ErrCode)
		k.hears(data(nine, 1, 1, 7), api.DevNone, api.ErrStale)
		k.holds()
	}
	if k.m.Lost() != 6 || k.m.Seen(9) != 7 || k.m.Seen(7) != 0 || !slices.Equal(k.m.Codes(), []uint32{7, 9}) {
		t.Errorf("P16.3: Lost %d, Seen %d, %d, Codes %d", k.m.Lost(), k.m.Seen(9), k.m.Seen(7), k.m.Codes())
	}
	k.holdOn(9)
	// The fourth odd unit makes it give its session up.
	k.hears(data(nine, 1, 1, 7), api.DevNone, api.ErrStale)
	k.holdOn()
	k.holds()
}

// Whose output is on: behind hold, a fault, the last number.
func TestOn(t *testing.T) {
	k := with(t, seven, nine, sets[4])
	k.holdOn()
	k.run(seven, 1)
	k.holdOn()
	k.hears(data(seven, 1, 1, 0), api.DevData, api.OK)
	k.holdOn(7)
	k.turnOn(sets[4], 1)
	k.holdOn(7, 1<<24)
	k.turnOn(nine, 1)
	k.holdOn(7, 9, 1<<24)
	held := data(seven, 1, 2, 0)
	held.Flags = api.FlagHold
	k.hears(held, api.DevData, api.OK)
	k.holdOn(9, 1<<24)
	k.hears(last(sets[4], 1), api.DevLast, api.OK)
	k.holdOn(9)
	k.hears(data(seven, 1, 3, 0), api.DevData, api.OK)
	k.holdOn(7, 9)
	k.tick(3)
	k.holdOn(7)
	k.hears(data(nine, 1, 2, 0), api.DevData, api.OK)
	k.holdOn(7)
	k.ends[9].elsewhere(func(d *device.Device, _ *mem.Mem) { d.Ack() })
	k.hears(data(nine, 1, 3, 0), api.DevData, api.OK)
	k.holdOn(7, 9)
	k.ends[9].elsewhere(func(d *device.Device, _ *mem.Mem) { d.Reset(1) })
	k.hear(encode(t, wish(nine)))
	k.holdOn(7)
	k.holds()
}
