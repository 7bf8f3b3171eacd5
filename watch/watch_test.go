package watch_test

import (
	"math"
	"testing"

	"parapet/api"
	"parapet/watch"
)

const (
	least = math.MinInt64
	top   = math.MaxInt64
	long  = api.MaxTicks
)

// newDog: a watchdog with this limit, just fed.
func newDog(t *testing.T, limit int) *watch.Dog {
	t.Helper()
	d, e := watch.New(limit)
	if d == nil || e != api.OK {
		t.Fatalf("P10.1: New(%d): a watchdog: %v, %d", limit, d != nil, e)
	}
	return d
}

// dogAt: a watchdog with this limit whose count is this one.
func dogAt(t *testing.T, limit, count int) *watch.Dog {
	t.Helper()
	d := newDog(t, limit)
	holdTicks(t, d, count, count == limit, api.OK)
	holdDog(t, d, limit, count)
	return d
}

// holdDog: all that one sees of a watchdog.
func holdDog(t *testing.T, d *watch.Dog, limit, since int) {
	t.Helper()
	// Twice: looking changes nothing.
	for range 2 {
		if got := d.Since(); got != since {
			t.Errorf("P10.1: Since: %d, not %d", got, since)
		}
		if got := d.Expired(); got != (since == limit) {
			t.Errorf("P10.1: Expired at %d of %d: %v", since, limit, got)
		}
		if got := d.Limit(); got != limit {
			t.Errorf("P10.1: Limit: %d, not %d", got, limit)
		}
	}
}

func holdTick(t *testing.T, d *watch.Dog, want bool) {
	t.Helper()
	if got := d.Tick(); got != want {
		t.Errorf("P10.1: Tick: %v, not %v", got, want)
	}
}

func holdTicks(t *testing.T, d *watch.Dog, n int, want bool, e api.Errno) {
	t.Helper()
	if got, code := d.Ticks(n); got != want || code != e {
		t.Errorf("P10.1: Ticks(%d): %v, %d, not %v, %d", n, got, code, want, e)
	}
}

func TestExamples(t *testing.T) {
	d := newDog(t, 3)
	holdTick(t, d, false)
	holdTicks(t, d, 1, false, api.OK)
	holdTick(t, d, true)
	holdTick(t, d, false)
	holdDog(t, d, 3, 3)
	d.Feed()
	holdDog(t, d, 3, 0)
	holdTicks(t, d, 5, true, api.OK)
	holdTicks(t, d, 0, false, api.OK)
	holdTicks(t, d, -1, false, api.ErrRange)
	holdDog(t, d, 3, 3)
	if d, e := watch.New(0); d != nil || e != api.ErrRange {
		t.Errorf("P10.1: New(0): a watchdog: %v, %d", d != nil, e)
	}
}

func TestNew(t *testing.T) {
	for _, limit := range []int{1, 2, 3, 10, 255, 256, 1 << 16, long - 1, long} {
		d := newDog(t, limit)
		holdDog(t, d, limit, 0)
		// The limit that it says is the one that it goes by.
		holdTicks(t, d, limit-1, false, api.OK)
		holdDog(t, d, limit, limit-1)
		holdTick(t, d, true)
		holdDog(t, d, limit, limit)
		// Another one doesn't begin where this one is.
		holdDog(t, newDog(t, limit), limit, 0)
	}
}

func TestNewOutsideItsRange(t *testing.T) {
	// The last ones lie in the range to whoever looks at the low bits alone.
	for _, limit := range []int{least, least + 1, -long - 1, -long, -3, -2, -1, 0, long + 1, long + 2, 2 * long, top - 1, top,
		1 << 32, 1<<32 + 1, 1<<32 + long, -1<<32 + 1, least + 3, 1<<62 + 3} {
		// R3: no watchdog beside the error.
		if d, e := watch.New(limit); d != nil || e != api.ErrRange {
			t.Errorf("P10.1: New(%d): a watchdog: %v, %d, not %d", limit, d != nil, e, api.ErrRange)
		}
	}
}

func TestTickByTick(t *testing.T) {
	for _, limit := range []int{1, 2, 3, 4, 10, 1000} {
		d := newDog(t, limit)
		for count := 1; count <= limit; count++ {
			holdTick(t, d, count == limit)
			holdDog(t, d, limit, count)
		}
		// Beyond the limit it counts no further, and says it no more.
		for range 5 {
			holdTick(t, d, false)
			holdDog(t, d, limit, limit)
		}
	}
}

func TestTickUpToTheGreatestLimit(t *testing.T) {
	d := newDog(t, long)
	for count := 1; count < long; count++ {
		if d.Tick() || d.Since() != count || d.Expired() {
			t.Fatalf("P10.1: Tick %d of %d: Since %d, Expired %v", count, long, d.Since(), d.Expired())
		}
	}
	holdTick(t, d, true)
	holdDog(t, d, long, long)
	holdTick(t, d, false)
	holdDog(t, d, long, long)
}

func TestLimitOfOne(t *testing.T) {
	d := newDog(t, 1)
	for range 3 {
		holdDog(t, d, 1, 0)
		holdTicks(t, d, 0, false, api.OK)
		holdDog(t, d, 1, 0)
		holdTick(t, d, true)
		holdDog(t, d, 1, 1)
		holdTick(t, d, false)
		holdTicks(t, d, 1, false, api.OK)
		holdTicks(t, d, top, false, api.OK)
		holdDog(t, d, 1, 1)
		d.Feed()
		holdDog(t, d, 1, 0)
		holdTicks(t, d, 2, true, api.OK)
		holdDog(t, d, 1, 1)
		d.Feed()
	}
}

// counts: those at which a watchdog with this limit is tried.
func counts(limit int) []int {
	return []int{0, min(1, limit), limit / 2, limit - 1, limit}
}

func TestTicksAtEachCount(t *testing.T) {
	for _, limit := range []int{1, 2, 3, 10, 1000, long - 1, long} {
		for _, count := range counts(limit) {
			left := limit - count
			for _, n := range []int{0, 1, 2, left - 1, left, left + 1, limit - 1, limit, limit + 1, long, long + 1, 1 << 31, 1<<32 - 1, 1 << 32, 1<<32 + 1, 1 << 62, top - limit, top - count, top - 1, top} {
				if n < 0 {
					continue
				}
				d := dogAt(t, limit, count)
				holdTicks(t, d, n, left > 0 && n >= left, api.OK)
				holdDog(t, d, limit, count+min(n, left))
			}
		}
	}
}

func TestTicksBelowZero(t *testing.T) {
	for _, limit := range []int{1, 2, 3, 10, long} {
		for _, count := range counts(limit) {
			d := dogAt(t, limit, count)
			for _, n := range []int{-1, -2, -count, -count - 1, -limit, -long, -long - 1, -1 << 32, -1<<32 + 1, -1 << 62, least + limit, least + 1, least} {
				if n == 0 {
					continue
				}
				holdTicks(t, d, n, false, api.ErrRange)
				// R4: an error has changed nothing.
				holdDog(t, d, limit, count)
			}
			// What comes behind goes on from where it was.
			holdTicks(t, d, limit-count, count < limit, api.OK)
			holdDog(t, d, limit, limit)
		}
	}
}

func TestFeed(t *testing.T) {
	for _, limit := range []int{1, 2, 3, 10, long} {
		for _, count := range counts(limit) {
			for times := 1; times <= 2; times++ {
				d := dogAt(t, limit, count)
				for range times {
					d.Feed()
					holdDog(t, d, limit, 0)
				}
				// It has the whole limit again, and says it again.
				holdTicks(t, d, limit-1, false, api.OK)
				holdDog(t, d, limit, limit-1)
				holdTick(t, d, true)
				holdDog(t, d, limit, limit)
				holdTick(t, d, false)
				d.Feed()
				holdDog(t, d, limit, 0)
			}
		}
	}
}

func TestFedInTimeItNeverExpires(t *testing.T) {
	for _, limit := range []int{2, 3, 10} {
		d := newDog(t, limit)
		for range 5 * limit {
			for count := 1; count < limit; count++ {
				holdTick(t, d, false)
				holdDog(t, d, limit, count)
			}
			d.Feed()
		}
		holdDog(t, d, limit, 0)
	}
}

func TestLimitIsTheSameBehindAll(t *testing.T) {
	d := newDog(t, 5)
	for range 3 {
		d.Tick()
		d.Ticks(-1)
		d.Ticks(0)
		d.Ticks(2)
		holdDog(t, d, 5, 3)
		d.Ticks(top)
		holdDog(t, d, 5, 5)
		d.Feed()
		holdDog(t, d, 5, 0)
	}
}

func TestOfNil(t *testing.T) {
	var d *watch.Dog
	for range 2 {
		if d.Tick() || d.Expired() || d.Since() != 0 || d.Limit() != 0 {
			t.Errorf("P10.1: of nil: Tick %v, Expired %v, Since %d, Limit %d", d.Tick(), d.Expired(), d.Since(), d.Limit())
		}
		for _, n := range []int{0, 1, 2, long, long + 1, top, -1, -long, least} {
			// R2: that there is none comes ahead of what it is given.
			holdTicks(t, d, n, false, api.ErrNil)
		}
		d.Feed()
	}
}

func TestOfWhatNewHasNotMade(t *testing.T) {
	// P1: the document says nothing of what it answers, but it may not panic.
	d := &watch.Dog{}
	d.Tick()
	d.Ticks(0)
	d.Ticks(top)
	d.Ticks(least)
	d.Feed()
	d.Since()
	d.Expired()
	d.Limit()
}

func TestTwoDoNotTouchEachOther(t *testing.T) {
	a, b := newDog(t, 3), newDog(t, 5)
	holdTicks(t, a, 2, false, api.OK)
	holdDog(t, b, 5, 0)
	holdTicks(t, b, 4, false, api.OK)
	holdDog(t, a, 3, 2)
	holdTick(t, a, true)
	holdDog(t, b, 5, 4)
	a.Feed()
	holdDog(t, b, 5, 4)
	holdTick(t, b, true)
	holdDog(t, a, 3, 0)
	holdTicks(t, b, -1, false, api.ErrRange)
	holdTicks(t, a, top, true, api.OK)
	b.Feed()
	holdDog(t, a, 3, 3)
	holdDog(t, b, 5, 0)

	// Two with one limit are two as well.
	c, d := newDog(t, 2), newDog(t, 2)
	for range 3 {
		holdTick(t, c, false)
		holdTick(t, c, true)
		holdDog(t, d, 2, 0)
		holdTick(t, d, false)
		holdTick(t, d, true)
		c.Feed()
		holdDog(t, d, 2, 2)
		d.Feed()
	}
}
