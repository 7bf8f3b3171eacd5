package watch_test

import (
	"runtime"
	"sync"
	"sync/atomic"
	"testing"

	"parapet/watch"
)

// How many touch a watchdog at one time.
const workers = 8

// together runs one worker a number, all let go at once, and waits for them.
func together(work func(i int)) {
	begin := make(chan struct{})
	var group sync.WaitGroup
	for i := range workers {
		group.Go(func() {
			<-begin
			work(i)
		})
	}
	close(begin)
	group.Wait()
}

// inStep has the workers begin each round at one time, as far as that can be
// had: they wait for each other for a while only, since on a busy machine some
// may be far behind. So what a round is held to must be true without waiting, too.
func inStep(rounds int, work func(i, round int)) {
	here := make([]atomic.Int32, rounds)
	together(func(i int) {
		for round := range rounds {
			here[round].Add(1)
			for tries := 0; tries < 100 && here[round].Load() < workers; tries++ {
				runtime.Gosched()
			}
			work(i, round)
		}
	})
}

func TestNoTickIsLost(t *testing.T) {
	const each = 20000
	d := newDog(t, workers*each)
	var told atomic.Int32
	together(func(i int) {
		for range each {
			if d.Tick() {
				told.Add(1)
			}
		}
	})
	holdDog(t, d, workers*each, workers*each)
	if n := told.Load(); n != 1 {
		t.Errorf("P10.2: of %d Ticks of several %d were true", workers*each, n)
	}
}

func TestOneIsTold(t *testing.T) {
	// Some of the workers' ticks come to the limit, the others find it: it stays there.
	const rounds = 5000
	dogs := make([]*watch.Dog, rounds)
	for round := range dogs {
		dogs[round] = newDog(t, 1+round%workers)
	}
	told := make([]atomic.Int32, rounds)
	inStep(rounds, func(i, round int) {
		d := dogs[round]
		reached := false
		if i%2 == 0 {
			reached = d.Tick()
		} else {
			reached, _ = d.Ticks(1 + round%3)
		}
		if reached {
			told[round].Add(1)
			// Nobody feeds it: it stays where this tick brought it.
			if !d.Expired() || d.Since() != d.Limit() {
				t.Errorf("P10.1: behind a tick that was true: Since %d of %d", d.Since(), d.Limit())
			}
		}
	})
	for round, d := range dogs {
		holdDog(t, d, 1+round%workers, 1+round%workers)
		if n := told[round].Load(); n != 1 {
			t.Fatalf("P10.2: round %d: %d of %d say that they made the limit", round, n, workers)
		}
	}
}

func TestTicksAndFeedings(t *testing.T) {
	const each, limit = 20000, 3
	d := newDog(t, limit)
	var told, fed atomic.Int32
	together(func(i int) {
		for k := range each {
			if k%5 == i%5 {
				d.Feed()
				fed.Add(1)
			} else if reached, _ := d.Ticks(1 + k%2); reached {
				told.Add(1)
			}
			if n := d.Since(); n < 0 || n > limit {
				t.Errorf("P10.1: Since %d of %d", n, limit)
			}
		}
	})
	if told.Load() > fed.Load()+1 {
		t.Errorf("P10.2: true %d times, fed %d times", told.Load(), fed.Load())
	}
}
