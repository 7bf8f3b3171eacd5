package passive_test

import (
	"bytes"
	"testing"

	"parapet/api"
	"parapet/passive"
)

// fill changes each byte of a list, with its room, and appends to it.
func fill(b []byte) {
	all := b[:cap(b)]
	for i := range all {
		all[i] ^= 0xff
	}
	_ = append(b, 0xdd, 0xdd, 0xdd)
}

// roomy is a list of these bytes, with others ahead of it and in its spare room.
func roomy(b []byte) (list, whole []byte) {
	whole = bytes.Repeat([]byte{0x5a}, len(b)+24)
	copy(whole[8:], b)
	return whole[8 : 8+len(b)], whole
}

func TestTakeKeepsNothing(t *testing.T) {
	for n := 1; n <= api.MaxData; n++ {
		v := newValve(t, n)
		v.Run(true)
		list, whole := roomy(full(n, 1))
		was := bytes.Clone(whole)
		holdTake(t, v, list, api.OK)
		if !bytes.Equal(whole, was) {
			t.Errorf("R6: Take changes its list of %d bytes, or the room around it", n)
		}
		fill(whole)
		holdOn(t, v, full(n, 1))

		// And the other way: neither an answer nor what comes later is written there.
		was = bytes.Clone(whole)
		got, _ := v.Output()
		fill(got)
		holdTake(t, v, full(n, 2), api.OK)
		v.Hold(true)
		v.Hold(false)
		v.Trip(first)
		v.Run(false)
		if !bytes.Equal(whole, was) {
			t.Errorf("R6: what was handed to Take is written, of %d bytes", n)
		}
	}
}

// What is changed while it is held, or taken where it is of no use, doesn't show either.
func TestTakeKeepsNothingWhileItIsHeld(t *testing.T) {
	for n := 1; n <= api.MaxData; n++ {
		v := newValve(t, n)
		v.Run(true)
		v.Hold(true)
		list, whole := roomy(full(n, 1))
		holdTake(t, v, list, api.OK)
		fill(whole)
		v.Hold(false)
		holdOn(t, v, full(n, 1))

		v.Trip(first)
		list, whole = roomy(full(n, 2))
		was := bytes.Clone(whole)
		holdTake(t, v, list, api.OK)
		v.Run(false)
		holdTake(t, v, list, api.OK)
		for _, b := range wrong(n) {
			list, whole := roomy(b)
			was := bytes.Clone(whole)
			holdTake(t, v, list, api.ErrLength)
			if !bytes.Equal(whole, was) {
				t.Errorf("R6: Take changes a list of %d bytes that it refuses", len(b))
			}
		}
		if !bytes.Equal(whole, was) {
			t.Errorf("R6: Take changes a list of %d bytes that is of no use", n)
		}
	}
}

// One list, handed in again with other bytes, and to another valve.
func TestOneListForAll(t *testing.T) {
	for n := 1; n <= api.MaxData; n++ {
		a, b := newValve(t, n), newValve(t, n)
		a.Run(true)
		b.Run(true)
		list := full(n, 1)
		holdTake(t, a, list, api.OK)
		holdTake(t, b, list, api.OK)
		copy(list, full(n, 2))
		holdTake(t, b, list, api.OK)
		holdOn(t, a, full(n, 1))
		holdOn(t, b, full(n, 2))

		// And an answer as what is handed in, to the same valve and to the other.
		got, _ := a.Output()
		holdTake(t, a, got, api.OK)
		holdTake(t, b, got, api.OK)
		fill(got)
		holdOn(t, a, full(n, 1))
		holdOn(t, b, full(n, 1))
	}
}

// states: valves for n bytes with all kinds of outputs, and what comes out of each.
func states(t *testing.T, n int) (valves []*passive.Valve, wants [][]byte) {
	add := func(want []byte, do func(v *passive.Valve)) {
		v := newValve(t, n)
		do(v)
		valves, wants = append(valves, v), append(wants, want)
	}
	safe := make([]byte, n)
	running := func(v *passive.Valve) {
		v.Run(true)
		v.Take(full(n, 7))
	}
	add(safe, func(*passive.Valve) {})
	add(safe, func(v *passive.Valve) { v.Run(true) })
	add(full(n, 7), running)
	add(safe, func(v *passive.Valve) { running(v); v.Hold(true) })
	add(safe, func(v *passive.Valve) { running(v); v.Trip(first) })
	add(safe, func(v *passive.Valve) { running(v); v.Run(false) })
	add(full(n, 8), func(v *passive.Valve) {
		running(v)
		v.Trip(first)
		v.Fresh()
		v.Ack()
		v.Take(full(n, 8))
	})
	return valves, wants
}

func TestOutputsAreNew(t *testing.T) {
	for n := 1; n <= api.MaxData; n++ {
		valves, wants := states(t, n)
		for i, v := range valves {
			earlier, on := v.Output()
			got, _ := v.Output()
			fill(got)
			later, _ := v.Output()
			if !bytes.Equal(earlier, wants[i]) || !bytes.Equal(later, wants[i]) {
				t.Errorf("R6: valve %d for %d bytes: an answer that is changed changes another: % x, % x, not % x", i, n, earlier, later, wants[i])
			}
			fill(earlier)
			fill(later)
			if got, is := v.Output(); !bytes.Equal(got, wants[i]) || is != on {
				t.Errorf("R6: valve %d for %d bytes: a changed answer changes what is kept: % x, %v", i, n, got, is)
			}
		}
		// Nor one valve's answer another one's.
		for i, v := range valves {
			if got, _ := v.Output(); !bytes.Equal(got, wants[i]) {
				t.Errorf("R6: valve %d for %d bytes: % x, not % x", i, n, got, wants[i])
			}
		}
	}
}

// An answer's room is its own as well: two that grow don't meet.
func TestOutputsGrowApart(t *testing.T) {
	for n := 1; n <= api.MaxData; n++ {
		valves, wants := states(t, n)
		for i, v := range valves {
			a, _ := v.Output()
			b, _ := v.Output()
			a = append(a, 1, 1, 1)
			b = append(b, 2, 2, 2)
			holdRest(t, a, wants[i], []byte{1, 1, 1})
			holdRest(t, b, wants[i], []byte{2, 2, 2})
		}
	}
}

func holdRest(t *testing.T, got, head, rest []byte) {
	t.Helper()
	if want := append(bytes.Clone(head), rest...); !bytes.Equal(got, want) {
		t.Errorf("R6: an answer that was appended to: % x, not % x", got, want)
	}
}

// What was answered stays as it was, whatever the valve goes through behind it.
func TestOutputsStay(t *testing.T) {
	for n := 1; n <= api.MaxData; n++ {
		v := newValve(t, n)
		safe, _ := v.Output()
		v.Run(true)
		v.Take(full(n, 1))
		one, _ := v.Output()
		v.Take(full(n, 2))
		two, _ := v.Output()
		v.Hold(true)
		v.Hold(false)
		v.Trip(first)
		v.Take(full(n, 3))
		v.Fresh()
		v.Ack()
		v.Take(full(n, 4))
		v.Run(false)
		for i, got := range [][]byte{one, two} {
			if !bytes.Equal(got, full(n, i+1)) {
				t.Errorf("R6: an earlier answer is % x, not % x", got, full(n, i+1))
			}
		}
		if !bytes.Equal(safe, make([]byte, n)) {
			t.Errorf("R6: an earlier fail-safe answer is % x", safe)
		}
	}
}
