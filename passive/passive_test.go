package passive_test

import (
	"bytes"
	"math"
	"testing"

	"parapet/api"
	"parapet/passive"
)

const (
	least = math.MinInt64
	top   = math.MaxInt64

	first = api.ErrWatchdog
	other = api.ErrResync
)

// newValve: a valve for n bytes.
func newValve(t *testing.T, n int) *passive.Valve {
	t.Helper()
	v, e := passive.New(n)
	if v == nil || e != api.OK {
		t.Fatalf("P11.1: New(%d): a valve: %v, %d", n, v != nil, e)
	}
	return v
}

// full: n bytes, none of them 0, others with each seed.
func full(n, seed int) []byte {
	b := make([]byte, n)
	for i := range b {
		b[i] = byte(1 + (i*7+seed*31)%255)
	}
	return b
}

// holdOn: this process value comes out.
func holdOn(t *testing.T, v *passive.Valve, want []byte) {
	t.Helper()
	// Twice: looking changes nothing.
	for range 2 {
		if got, on := v.Output(); !bytes.Equal(got, want) || !on {
			t.Errorf("P11.6: Output: % x, %v, not % x, true", got, on, want)
		}
	}
}

// holdSafe: n bytes 0 come out.
func holdSafe(t *testing.T, v *passive.Valve, n int) {
	t.Helper()
	for range 2 {
		if got, on := v.Output(); !bytes.Equal(got, make([]byte, n)) || on {
			t.Errorf("P11.6: Output: % x, %v, not %d bytes 0, false", got, on, n)
		}
	}
}

// holdFault: this fault is latched, and it asks for an acknowledgement, or not.
func holdFault(t *testing.T, v *passive.Valve, code api.Errno, request bool) {
	t.Helper()
	for range 2 {
		if got := v.Latched(); got != code {
			t.Errorf("P11.2: Latched: %d, not %d", got, code)
		}
		if got := v.Request(); got != request {
			t.Errorf("P11.5: Request: %v, not %v", got, request)
		}
	}
}

func holdTrip(t *testing.T, v *passive.Valve, code api.Errno, want bool) {
	t.Helper()
	if got := v.Trip(code); got != want {
		t.Errorf("P11.2: Trip(%d): %v, not %v", code, got, want)
	}
}

func holdTake(t *testing.T, v *passive.Valve, b []byte, want api.Errno) {
	t.Helper()
	if got := v.Take(b); got != want {
		t.Errorf("P11.4: Take of %d bytes: %d, not %d", len(b), got, want)
	}
}

func holdAck(t *testing.T, v *passive.Valve, want api.Errno) {
	t.Helper()
	if got := v.Ack(); got != want {
		t.Errorf("P11.5: Ack: %d, not %d", got, want)
	}
}

func TestExamples(t *testing.T) {
	v := newValve(t, 2)
	holdSafe(t, v, 2)
	v.Run(true)
	holdTake(t, v, []byte{1, 2}, api.OK)
	holdOn(t, v, []byte{1, 2})
	v.Hold(true)
	holdSafe(t, v, 2)
	v.Hold(false)
	holdOn(t, v, []byte{1, 2})
	holdTrip(t, v, 100, true)
	holdSafe(t, v, 2)
	holdTake(t, v, []byte{3, 4}, api.OK)
	holdSafe(t, v, 2)
	holdAck(t, v, api.ErrRequest)
	v.Fresh()
	holdFault(t, v, 100, true)
	holdTrip(t, v, 131, false)
	holdFault(t, v, 100, false)
	v.Fresh()
	holdAck(t, v, api.OK)
	holdSafe(t, v, 2)
	holdTake(t, v, []byte{5, 6}, api.OK)
	holdOn(t, v, []byte{5, 6})
	holdTake(t, v, []byte{1}, api.ErrLength)
	holdOn(t, v, []byte{5, 6})
	v.Run(false)
	holdSafe(t, v, 2)
	v.Run(true)
	holdSafe(t, v, 2)
}

func TestNew(t *testing.T) {
	for n := 1; n <= api.MaxData; n++ {
		v := newValve(t, n)
		holdSafe(t, v, n)
		holdFault(t, v, api.OK, false)
		// It isn't running: what is taken isn't kept.
		holdTake(t, v, full(n, 1), api.OK)
		holdSafe(t, v, n)
		// Nor is it held, once it runs.
		v.Run(true)
		holdSafe(t, v, n)
		holdTake(t, v, full(n, 2), api.OK)
		holdOn(t, v, full(n, 2))
		holdFault(t, v, api.OK, false)
		// Another one doesn't begin where this one is.
		holdSafe(t, newValve(t, n), n)
	}
}

func TestNewOutsideItsRange(t *testing.T) {
	// The last ones lie in the range to whoever looks at the low bits alone.
	for _, n := range []int{least, least + 1, -api.MaxData - 1, -api.MaxData, -2, -1, 0, api.MaxData + 1, api.MaxData + 2, 2 * api.MaxData, api.MaxUnit, top - 1, top,
		1<<8 + 1, 1<<16 + 8, 1 << 32, 1<<32 + 1, 1<<32 + 8, -1<<32 + 1, least + 8, 1<<62 + 3} {
		// R3: no valve beside the error.
		if v, e := passive.New(n); v != nil || e != api.ErrRange {
			t.Errorf("P11.1: New(%d): a valve: %v, %d, not %d", n, v != nil, e, api.ErrRange)
		}
	}
}

func TestTripOfNothing(t *testing.T) {
	v := newValve(t, 2)
	holdTrip(t, v, api.OK, false)
	holdFault(t, v, api.OK, false)
	v.Run(true)
	holdTake(t, v, []byte{1, 2}, api.OK)
	// It is no fault: the value stays.
	holdTrip(t, v, api.OK, false)
	holdOn(t, v, []byte{1, 2})
	holdFault(t, v, api.OK, false)

	holdTrip(t, v, first, true)
	holdTrip(t, v, api.OK, false)
	holdFault(t, v, first, false)
	v.Fresh()
	// Nor does it take back that something fresh has come.
	holdTrip(t, v, api.OK, false)
	holdFault(t, v, first, true)
	holdAck(t, v, api.OK)
}

func TestTripLatchesTheFirst(t *testing.T) {
	for _, code := range []api.Errno{first, other, api.ErrNil, 255, 256, 1 << 16, 1 << 32, top, -1, -256, least} {
		v := newValve(t, 1)
		v.Run(true)
		holdTrip(t, v, code, true)
		holdFault(t, v, code, false)
		for _, next := range []api.Errno{code, code + 1, api.ErrExhausted, code, 1, -1, top, least} {
			if next == api.OK {
				continue
			}
			holdTrip(t, v, next, false)
			holdFault(t, v, code, false)
		}
		v.Fresh()
		holdFault(t, v, code, true)
		holdAck(t, v, api.OK)
		holdFault(t, v, api.OK, false)
		// Behind the Ack the next one is the first.
		holdTrip(t, v, api.ErrExhausted, true)
		holdTrip(t, v, code, false)
		holdFault(t, v, api.ErrExhausted, false)
		v.Fresh()
		holdAck(t, v, api.OK)
		holdTrip(t, v, code, true)
		holdFault(t, v, code, false)
	}
}

func TestTripWhileItIsRunningAndNot(t *testing.T) {
	for n := 1; n <= api.MaxData; n++ {
		// Without a value, while it isn't running.
		v := newValve(t, n)
		holdTrip(t, v, first, true)
		holdSafe(t, v, n)
		holdFault(t, v, first, false)

		// While it is running, without a value and with one.
		for _, with := range []bool{false, true} {
			v = newValve(t, n)
			v.Run(true)
			if with {
				holdTake(t, v, full(n, 1), api.OK)
			}
			holdTrip(t, v, first, true)
			holdSafe(t, v, n)
			v.Fresh()
			holdAck(t, v, api.OK)
			// The value is gone, not hidden.
			holdSafe(t, v, n)
			holdTake(t, v, full(n, 2), api.OK)
			holdOn(t, v, full(n, 2))
		}
	}
}

func TestTripWhileItIsHeld(t *testing.T) {
	for _, with := range []bool{false, true} {
		v := newValve(t, 2)
		v.Run(true)
		v.Hold(true)
		if with {
			holdTake(t, v, full(2, 1), api.OK)
		}
		holdTrip(t, v, first, true)
		holdSafe(t, v, 2)
		v.Fresh()
		holdAck(t, v, api.OK)
		// A fault doesn't end the hold, nor does the Ack.
		holdTake(t, v, full(2, 2), api.OK)
		holdSafe(t, v, 2)
		v.Hold(false)
		holdOn(t, v, full(2, 2))
	}

	// A hold that ends while a fault is latched brings no value back.
	v := newValve(t, 2)
	v.Run(true)
	v.Hold(true)
	holdTake(t, v, full(2, 1), api.OK)
	holdTrip(t, v, first, true)
	v.Hold(false)
	holdSafe(t, v, 2)
	v.Fresh()
	holdAck(t, v, api.OK)
	holdSafe(t, v, 2)
	holdTake(t, v, full(2, 3), api.OK)
	holdOn(t, v, full(2, 3))
}

func TestRunOfWhatItIs(t *testing.T) {
	// Not running: nothing.
	v := newValve(t, 2)
	v.Run(false)
	holdSafe(t, v, 2)
	holdTake(t, v, full(2, 1), api.OK)
	holdSafe(t, v, 2)

	// Running: the value stays, and so does the hold.
	v.Run(true)
	holdTake(t, v, full(2, 2), api.OK)
	v.Run(true)
	holdOn(t, v, full(2, 2))
	v.Hold(true)
	v.Run(true)
	holdSafe(t, v, 2)
	v.Hold(false)
	holdOn(t, v, full(2, 2))

	// And so does a fault, with what has come since.
	holdTrip(t, v, first, true)
	v.Run(true)
	holdFault(t, v, first, false)
	v.Fresh()
	v.Run(true)
	holdFault(t, v, first, true)
	holdAck(t, v, api.OK)
}

func TestRunOfWhatItIsNot(t *testing.T) {
	// With a value.
	v := newValve(t, 2)
	v.Run(true)
	holdTake(t, v, full(2, 1), api.OK)
	v.Run(false)
	holdSafe(t, v, 2)
	v.Run(true)
	holdSafe(t, v, 2)
	holdTake(t, v, full(2, 2), api.OK)
	holdOn(t, v, full(2, 2))

	// Held, with a value: neither is left.
	v.Hold(true)
	v.Run(false)
	holdSafe(t, v, 2)
	v.Run(true)
	v.Hold(false)
	holdSafe(t, v, 2)
	v.Hold(true)
	v.Run(false)
	v.Run(true)
	holdTake(t, v, full(2, 3), api.OK)
	holdOn(t, v, full(2, 3))
}

func TestRunWithAFaultLatched(t *testing.T) {
	// A fault from before it ran holds on; so does what has come since.
	v := newValve(t, 2)
	holdTrip(t, v, first, true)
	v.Fresh()
	holdFault(t, v, first, false)
	v.Run(true)
	holdFault(t, v, first, true)
	v.Run(false)
	holdFault(t, v, first, false)
	holdAck(t, v, api.ErrRequest)
	v.Run(true)
	holdFault(t, v, first, true)
	holdSafe(t, v, 2)
	holdAck(t, v, api.OK)
	holdFault(t, v, api.OK, false)

	// Nothing fresh comes by running alone.
	holdTrip(t, v, other, true)
	v.Run(false)
	v.Run(true)
	holdFault(t, v, other, false)
	holdAck(t, v, api.ErrRequest)

	// A hold while a fault is latched ends with the running.
	v.Hold(true)
	v.Run(false)
	v.Run(true)
	v.Fresh()
	holdAck(t, v, api.OK)
	holdTake(t, v, full(2, 4), api.OK)
	holdOn(t, v, full(2, 4))
}

func TestHold(t *testing.T) {
	for n := 1; n <= api.MaxData; n++ {
		v := newValve(t, n)
		// While it isn't running: it isn't held behind that either.
		for _, on := range []bool{true, false, true, true} {
			v.Hold(on)
			holdSafe(t, v, n)
		}
		v.Run(true)
		holdTake(t, v, full(n, 1), api.OK)
		holdOn(t, v, full(n, 1))

		// Twice is as once.
		for range 2 {
			v.Hold(true)
			holdSafe(t, v, n)
		}
		v.Hold(false)
		holdOn(t, v, full(n, 1))
		v.Hold(false)
		holdOn(t, v, full(n, 1))

		// What comes while it is held shows behind the hold.
		v.Hold(true)
		holdTake(t, v, full(n, 2), api.OK)
		holdSafe(t, v, n)
		v.Hold(false)
		holdOn(t, v, full(n, 2))
		holdFault(t, v, api.OK, false)

		// Ahead of the first value.
		v = newValve(t, n)
		v.Run(true)
		v.Hold(true)
		holdSafe(t, v, n)
		holdTake(t, v, full(n, 3), api.OK)
		holdSafe(t, v, n)
		v.Hold(false)
		holdOn(t, v, full(n, 3))
	}
}

func TestHoldWithAFaultLatched(t *testing.T) {
	v := newValve(t, 2)
	v.Run(true)
	holdTrip(t, v, first, true)
	v.Fresh()
	for _, on := range []bool{true, false, true} {
		v.Hold(on)
		// It has nothing to do with the request.
		holdFault(t, v, first, true)
		holdSafe(t, v, 2)
	}
	holdAck(t, v, api.OK)
	holdTake(t, v, full(2, 1), api.OK)
	holdSafe(t, v, 2)
	v.Hold(false)
	holdOn(t, v, full(2, 1))
}

func TestFresh(t *testing.T) {
	v := newValve(t, 2)
	v.Run(true)
	// With nothing latched it is nothing, and it isn't remembered for a fault to come.
	v.Fresh()
	v.Fresh()
	holdFault(t, v, api.OK, false)
	holdAck(t, v, api.ErrRequest)
	holdTake(t, v, full(2, 1), api.OK)
	v.Fresh()
	holdOn(t, v, full(2, 1))
	holdTrip(t, v, first, true)
	holdFault(t, v, first, false)

	// Between two faults: taken back by the second, whichever it is.
	for _, code := range []api.Errno{other, first, other} {
		v.Fresh()
		holdFault(t, v, first, true)
		v.Fresh()
		holdFault(t, v, first, true)
		holdTrip(t, v, code, false)
		holdFault(t, v, first, false)
		holdAck(t, v, api.ErrRequest)
	}
	holdSafe(t, v, 2)

	// What came for one fault is nothing to the next one.
	v.Fresh()
	holdAck(t, v, api.OK)
	holdTrip(t, v, other, true)
	holdFault(t, v, other, false)
	holdAck(t, v, api.ErrRequest)

	// While it isn't running it is remembered, too.
	v.Run(false)
	v.Fresh()
	holdFault(t, v, other, false)
	v.Run(true)
	holdFault(t, v, other, true)
}

// wrong: lists that aren't of n bytes; the last ones are to whoever looks at the low bits alone.
func wrong(n int) [][]byte {
	lists := [][]byte{nil, {}, full(n, 9)[:0], full(n-1, 9), full(n, 9)[:n-1], full(n+1, 9), full(n+2, 9), full(2*n, 9), full(api.MaxData+1, 9), full(api.MaxUnit, 9), full(1<<8+n, 9), full(1<<16+n, 9)}
	if n > 1 {
		lists = append(lists, full(1, 9))
	}
	if n < api.MaxData {
		lists = append(lists, full(api.MaxData, 9))
	}
	return lists
}

func TestTakeOfAnotherLength(t *testing.T) {
	for n := 1; n <= api.MaxData; n++ {
		v := newValve(t, n)
		hold := func() {
			t.Helper()
			was, on := v.Output()
			latched, request := v.Latched(), v.Request()
			for _, b := range wrong(n) {
				holdTake(t, v, b, api.ErrLength)
			}
			// R4: an error has changed nothing.
			if got, is := v.Output(); !bytes.Equal(got, was) || is != on {
				t.Errorf("R4: Take: Output % x, %v, not % x, %v", got, is, was, on)
			}
			holdFault(t, v, latched, request)
		}
		hold()
		v.Run(true)
		hold()
		holdTake(t, v, full(n, 1), api.OK)
		hold()
		holdOn(t, v, full(n, 1))
		v.Hold(true)
		hold()
		v.Hold(false)
		holdOn(t, v, full(n, 1))
		holdTrip(t, v, first, true)
		hold()
		v.Fresh()
		hold()
		holdFault(t, v, first, true)
		v.Hold(true)
		hold()
		v.Run(false)
		hold()
		v.Run(true)
		holdAck(t, v, api.OK)
		hold()
		holdSafe(t, v, n)
	}
}

func TestTake(t *testing.T) {
	for n := 1; n <= api.MaxData; n++ {
		v := newValve(t, n)
		v.Run(true)
		for seed := range 5 {
			holdTake(t, v, full(n, seed), api.OK)
			holdOn(t, v, full(n, seed))
		}
		// Bytes 0 are a value, too.
		holdTake(t, v, make([]byte, n), api.OK)
		holdOn(t, v, make([]byte, n))
		holdTake(t, v, bytes.Repeat([]byte{255}, n), api.OK)
		holdOn(t, v, bytes.Repeat([]byte{255}, n))
	}
	v := newValve(t, 1)
	v.Run(true)
	for c := range 256 {
		holdTake(t, v, []byte{byte(c)}, api.OK)
		holdOn(t, v, []byte{byte(c)})
	}
}

func TestTakeOfNoUse(t *testing.T) {
	for n := 1; n <= api.MaxData; n++ {
		v := newValve(t, n)
		// Ahead of Run it is gone behind it.
		holdTake(t, v, full(n, 1), api.OK)
		holdSafe(t, v, n)
		v.Run(true)
		holdSafe(t, v, n)

		// While a fault is latched, with something fresh and without, it is gone behind the Ack.
		holdTrip(t, v, first, true)
		holdTake(t, v, full(n, 2), api.OK)
		holdSafe(t, v, n)
		// It isn't fresh by itself.
		holdFault(t, v, first, false)
		v.Fresh()
		holdTake(t, v, full(n, 3), api.OK)
		holdSafe(t, v, n)
		holdFault(t, v, first, true)
		holdAck(t, v, api.OK)
		holdSafe(t, v, n)

		// While it isn't running, with a fault latched.
		holdTrip(t, v, first, true)
		v.Run(false)
		holdTake(t, v, full(n, 4), api.OK)
		holdSafe(t, v, n)
		v.Run(true)
		holdSafe(t, v, n)
		v.Fresh()
		holdAck(t, v, api.OK)
		holdSafe(t, v, n)
		holdTake(t, v, full(n, 5), api.OK)
		holdOn(t, v, full(n, 5))
	}
}

func TestRequestAndAck(t *testing.T) {
	for i := range 8 {
		running, latched, fresh := i&1 != 0, i&2 != 0, i&4 != 0
		v := newValve(t, 3)
		v.Run(running)
		code := api.OK
		if latched {
			code = first
			holdTrip(t, v, code, true)
		}
		if fresh {
			v.Fresh()
		}
		all := running && latched && fresh
		holdFault(t, v, code, all)
		holdSafe(t, v, 3)
		if !all {
			holdAck(t, v, api.ErrRequest)
			// R4: the latch holds on, and what isn't there yet is all that is wanted.
			holdFault(t, v, code, false)
			holdSafe(t, v, 3)
			v.Run(true)
			holdFault(t, v, code, latched && fresh)
			v.Fresh()
			holdFault(t, v, code, latched)
			continue
		}
		holdAck(t, v, api.OK)
		holdFault(t, v, api.OK, false)
		holdSafe(t, v, 3)
		// Twice: there is nothing any more.
		holdAck(t, v, api.ErrRequest)
		holdFault(t, v, api.OK, false)
		v.Fresh()
		holdAck(t, v, api.ErrRequest)
		holdTake(t, v, full(3, 1), api.OK)
		holdOn(t, v, full(3, 1))
		// Nor does an Ack take a value away.
		holdAck(t, v, api.ErrRequest)
		holdOn(t, v, full(3, 1))
	}
}

func TestNothingButAckEndsALatch(t *testing.T) {
	v := newValve(t, 2)
	v.Run(true)
	holdTake(t, v, full(2, 1), api.OK)
	holdTrip(t, v, first, true)
	for range 3 {
		for _, do := range []func(){
			func() { v.Trip(other) },
			func() { v.Trip(first) },
			func() { v.Trip(api.OK) },
			func() { v.Ack() },
			func() { v.Run(true) },
			func() { v.Run(false) },
			func() { v.Fresh() },
			func() { v.Ack() },
			func() { v.Hold(true) },
			func() { v.Take(full(2, 2)) },
			func() { v.Run(true) },
			func() { v.Hold(true) },
			func() { v.Hold(false) },
			func() { v.Take(full(2, 3)) },
			func() { v.Take(nil) },
			func() { v.Request() },
			func() { v.Latched() },
			func() { v.Output() },
			func() { v.Fresh() },
		} {
			do()
			if got := v.Latched(); got != first {
				t.Errorf("P11.7: Latched: %d, not %d", got, first)
			}
			if got, on := v.Output(); on || !bytes.Equal(got, []byte{0, 0}) {
				t.Errorf("P11.7: Output with a fault latched: % x, %v", got, on)
			}
		}
	}
	holdAck(t, v, api.OK)
	holdFault(t, v, api.OK, false)
	holdSafe(t, v, 2)
}

func TestOfNil(t *testing.T) {
	var v *passive.Valve
	for range 2 {
		for _, code := range []api.Errno{api.OK, first, other, -1} {
			holdTrip(t, v, code, false)
		}
		for _, on := range []bool{true, false} {
			v.Run(on)
			v.Hold(on)
		}
		v.Fresh()
		for n := range api.MaxData + 2 {
			// R2: that there is none comes ahead of what it is given.
			holdTake(t, v, full(n, 1), api.ErrNil)
		}
		holdTake(t, v, nil, api.ErrNil)
		holdAck(t, v, api.ErrNil)
		holdFault(t, v, api.OK, false)
		if b, on := v.Output(); len(b) != 0 || on {
			t.Errorf("R7: Output of nil: % x, %v", b, on)
		}
	}
}

func TestOfWhatNewHasNotMade(t *testing.T) {
	// P1: the document says nothing of what it answers, but it may not panic.
	v := &passive.Valve{}
	for _, on := range []bool{true, false, true} {
		v.Run(on)
		v.Hold(on)
		v.Take(nil)
		v.Take(full(2, 1))
		v.Output()
		v.Trip(api.OK)
		v.Trip(first)
		v.Fresh()
		v.Request()
		v.Latched()
		v.Ack()
		v.Hold(false)
		v.Output()
	}
}

func TestTwoDoNotTouchEachOther(t *testing.T) {
	for _, sizes := range [][2]int{{2, 2}, {1, 8}, {3, 5}} {
		n, m := sizes[0], sizes[1]
		a, b := newValve(t, n), newValve(t, m)
		a.Run(true)
		holdTake(t, b, full(m, 1), api.OK)
		holdSafe(t, b, m)
		b.Run(true)
		holdTake(t, a, full(n, 2), api.OK)
		holdSafe(t, b, m)
		holdTake(t, b, full(m, 3), api.OK)
		holdOn(t, a, full(n, 2))
		a.Hold(true)
		holdOn(t, b, full(m, 3))
		b.Hold(false)
		holdSafe(t, a, n)
		holdTrip(t, a, first, true)
		holdFault(t, b, api.OK, false)
		holdOn(t, b, full(m, 3))
		b.Fresh()
		holdFault(t, a, first, false)
		holdAck(t, b, api.ErrRequest)
		holdTrip(t, b, other, true)
		holdFault(t, a, first, false)
		a.Fresh()
		holdFault(t, b, other, false)
		holdAck(t, a, api.OK)
		holdFault(t, b, other, false)
		b.Run(false)
		a.Hold(false)
		holdTake(t, a, full(n, 4), api.OK)
		holdOn(t, a, full(n, 4))
		holdSafe(t, b, m)
	}
}
