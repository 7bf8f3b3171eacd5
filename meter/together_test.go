package meter_test

import (
	"runtime"
	"slices"
	"sync"
	"sync/atomic"
	"testing"

	"parapet/api"
	"parapet/meter"
)

// How many touch a meter at one time.
const workers = 8

// together runs one worker a number, all let go at once, and waits for them.
func together(work func(i int)) {
	begin := make(chan struct{})
	var group sync.WaitGroup
	for i := range workers {
		group.Go(func() {
			<-begin
			work(i)
		})
	}
	close(begin)
	group.Wait()
}

// inStep has the workers begin each round at one time, as far as that can be
// had: they wait for each other for a while only, since on a busy machine some
// may be far behind. So what a round is held to must be true without waiting, too.
func inStep(rounds int, work func(i, round int)) {
	here := make([]atomic.Int32, rounds)
	together(func(i int) {
		for round := range rounds {
			here[round].Add(1)
			for tries := 0; tries < 100 && here[round].Load() < workers; tries++ {
				runtime.Gosched()
			}
			work(i, round)
		}
	})
}

// meters: so many new ones.
func meters(n int) []*meter.Meter {
	out := make([]*meter.Meter, n)
	for i := range out {
		out[i] = meter.New()
	}
	return out
}

// holdOne: of the workers just one did it, in each round.
func holdOne(t *testing.T, what string, did [][workers]bool) {
	t.Helper()
	for round, list := range did {
		n := 0
		for _, d := range list {
			if d {
				n++
			}
		}
		if n != 1 {
			t.Fatalf("%s: round %d: %d of %d say that they did it", what, round, n, workers)
		}
	}
}

// withLookers does what together does, while two others look on until the work is done.
func withLookers(work func(i int), look func()) {
	done := make(chan struct{})
	var group sync.WaitGroup
	for range 2 {
		group.Go(func() {
			for {
				look()
				select {
				case <-done:
					return
				default:
					// Where there are few processors, so that the work goes on.
					runtime.Gosched()
				}
			}
		})
	}
	together(work)
	close(done)
	group.Wait()
}

func TestNoAddIsLost(t *testing.T) {
	const each = 20000
	m := meter.New()
	counts := make([][]uint64, workers)
	together(func(i int) {
		for range each {
			n, _ := m.Add(1)
			counts[i] = append(counts[i], n)
		}
	})
	if got := m.Total(); got != workers*each {
		t.Fatalf("P5.6: %d Adds of 1: Total %d", workers*each, got)
	}
	// Each is one step of its own: each answers a count that no other does.
	whole := slices.Concat(counts...)
	slices.Sort(whole)
	for i, n := range whole {
		if n != uint64(i+1) {
			t.Fatalf("P5.6: the count %d was answered twice or never", i+1)
		}
	}
}

func TestUnlikeAdds(t *testing.T) {
	const each = 20000
	m := meter.New()
	want := uint64(0)
	for i := range workers {
		want += each * uint64(i) << (4 * i)
	}
	together(func(i int) {
		for range each {
			m.Add(uint64(i) << (4 * i))
		}
	})
	if got := m.Total(); got != want {
		t.Errorf("P5.6: Total %d, not %d", got, want)
	}
}

func TestAddsUpToTheGreatestTogether(t *testing.T) {
	// Some of each round's Adds come to the greatest number, the others find it: it stays there.
	const rounds = 5000
	list := meters(rounds)
	for round, m := range list {
		m.Swap(most - uint64(round%(workers+1)))
	}
	inStep(rounds, func(i, round int) {
		if n, e := list[round].Add(1); n < most-workers || e != api.OK {
			t.Errorf("P5.1: Add(1) near the greatest number: %d, %d", n, e)
		}
		if n := list[round].Total(); n < most-workers {
			t.Errorf("P5.1: Total near the greatest number: %d", n)
		}
	})
	for _, m := range list {
		holdTotal(t, m, most)
	}
}

func TestAddsAndSwaps(t *testing.T) {
	const each = 20000
	m := meter.New()
	var taken [workers]uint64
	together(func(i int) {
		for k := range each {
			m.Add(3)
			if k%7 == i%7 {
				n, _ := m.Swap(0)
				taken[i] += n
			}
		}
	})
	sum := m.Total()
	for _, n := range taken {
		sum += n
	}
	if sum != 3*workers*each {
		t.Errorf("P5.6: of %d counted, %d were found by Swaps and Total", 3*workers*each, sum)
	}
}

func TestSwapsTogether(t *testing.T) {
	// Each number that was put in comes out just once, or is there at the end.
	const each = 10000
	m := meter.New()
	found := make([][]uint64, workers)
	together(func(i int) {
		for k := range each {
			n, _ := m.Swap(uint64(i*each + k + 1))
			found[i] = append(found[i], n)
		}
	})
	whole := append(slices.Concat(found...), m.Total())
	slices.Sort(whole)
	for i, n := range whole {
		if n != uint64(i) {
			t.Fatalf("P5.6: Swaps: %d came out twice or never", i)
		}
	}
}

func TestOneMoveOfSeveral(t *testing.T) {
	// The count is never below a worker's round: behind its Move from a number the count is above that, whoever did it.
	const rounds = 5000
	m := meter.New()
	did := make([][workers]bool, rounds)
	inStep(rounds, func(i, round int) {
		did[round][i] = m.Move(uint64(round), uint64(round+1))
	})
	holdOne(t, "P5.6: Moves from one number", did)
	holdTotal(t, m, rounds)
}

func TestOneMoveToEachsOwn(t *testing.T) {
	const rounds = 5000
	list := meters(rounds)
	did := make([][workers]bool, rounds)
	inStep(rounds, func(i, round int) {
		did[round][i] = list[round].Move(0, uint64(i+1))
	})
	holdOne(t, "P5.6: Moves from 0", did)
	for round, m := range list {
		if got := m.Total(); got < 1 || got > workers || !did[round][got-1] {
			t.Fatalf("P5.6: the count is %d; moved: %v", got, did[round])
		}
	}
}

func TestMovesAndAdds(t *testing.T) {
	const each = 10000
	m := meter.New()
	var moved [workers]uint64
	together(func(i int) {
		for range each {
			m.Add(1)
			if n := m.Total(); m.Move(n, n+2) {
				moved[i] += 2
			}
		}
	})
	want := uint64(workers * each)
	for _, n := range moved {
		want += n
	}
	if got := m.Total(); got != want {
		t.Errorf("P5.6: Total %d, not %d", got, want)
	}
}

func TestThePeakIsTheGreatest(t *testing.T) {
	const rounds = 10000
	list := meters(rounds)
	inStep(rounds, func(i, round int) {
		// Negative ones, and each worker has each of them in its turn.
		v := int64((i+round)%workers - workers)
		list[round].Raise(v)
		if peak, ok := list[round].Peak(); peak < v || peak >= 0 || !ok {
			t.Errorf("P5.6: Peak behind Raise(%d): %d, %v", v, peak, ok)
		}
	})
	for _, m := range list {
		if peak, ok := m.Peak(); peak != -1 || !ok {
			t.Fatalf("P5.6: Peak %d, %v, not -1", peak, ok)
		}
	}
}

func TestThePeakOfManyRaises(t *testing.T) {
	const rounds = 10000
	m := meter.New()
	inStep(rounds, func(i, round int) { m.Raise(int64(round*workers + (i+round)%workers)) })
	if peak, ok := m.Peak(); peak != rounds*workers-1 || !ok {
		t.Errorf("P5.6: Peak %d, %v, not %d", peak, ok, rounds*workers-1)
	}
}

func TestOneFirstRaise(t *testing.T) {
	for _, v := range []int64{least, -1, 0, 1, top} {
		const rounds = 2000
		list := meters(rounds)
		did := make([][workers]bool, rounds)
		inStep(rounds, func(i, round int) { did[round][i] = list[round].Raise(v) })
		holdOne(t, "P5.6: first Raises of one number", did)
	}
}

func TestRaisesThatRise(t *testing.T) {
	// Of one number just one Raise can be done, whoever comes first.
	const each = 5000
	m := meter.New()
	raised := make([][]int64, workers)
	together(func(i int) {
		for v := range int64(each) {
			if m.Raise(v) {
				raised[i] = append(raised[i], v)
			}
		}
	})
	whole := slices.Concat(raised...)
	slices.Sort(whole)
	if n := len(whole); len(slices.Compact(whole)) != n {
		t.Errorf("P5.6: two Raises of one number were done")
	}
	if got, ok := m.Peak(); got != each-1 || !ok {
		t.Errorf("P5.6: Peak %d, %v, not %d", got, ok, each-1)
	}
}

func TestThePeakNeverFalls(t *testing.T) {
	const each = 3000
	m := meter.New()
	withLookers(func(i int) {
		for k := range int64(each) {
			m.Raise(k*workers + int64(i))
		}
	}, func() {
		first, ok := m.Peak()
		second, still := m.Peak()
		if ok && (!still || second < first) {
			t.Errorf("P5.6: Peak %d, then %d, %v", first, second, still)
		}
	})
}

func TestTheFirstPeakIsWhole(t *testing.T) {
	// One sees no peak, or the one that was raised, but nothing between.
	const rounds = 5000
	list := meters(rounds)
	inStep(rounds, func(i, round int) {
		if i == round%workers {
			list[round].Raise(least)
		}
		if v, ok := list[round].Peak(); ok && v != least || !ok && v != 0 {
			t.Errorf("P5.6: Peak %d, %v while the first is raised", v, ok)
		}
	})
}

func TestFlagsTogether(t *testing.T) {
	// Each worker has flags of its own, which nobody else may turn.
	const rounds = 10000
	m := meter.New()
	inStep(rounds, func(i, round int) {
		mine := uint32(0x01010101) << i
		if was := m.Set(mine); was&mine != 0 {
			t.Errorf("P5.3: Set(%#x): %#x were up", mine, was)
		}
		if was := m.Clear(mine); was&mine != mine {
			t.Errorf("P5.3: Clear(%#x): %#x were up", mine, was)
		}
		m.Set(mine)
		if now := m.Flags(); now&mine != mine {
			t.Errorf("P5.3: Flags behind Set(%#x): %#x", mine, now)
		}
		if round < rounds-1 {
			m.Clear(mine)
		}
	})
	holdFlags(t, m, all)
}

func TestOneSetsAFlag(t *testing.T) {
	// Set in the even rounds, cleared in the odd ones.
	const rounds = 10000
	list := meters(rounds)
	for round, m := range list {
		m.Set(uint32(round % 2 * 4))
	}
	did := make([][workers]bool, rounds)
	inStep(rounds, func(i, round int) {
		if round%2 == 0 {
			did[round][i] = list[round].Set(4) == 0
		} else {
			did[round][i] = list[round].Clear(4) == 4
		}
	})
	holdOne(t, "P5.3: Sets or Clears of one flag", did)
}

func TestOneTurnsTheSwitch(t *testing.T) {
	// On in the even rounds, off in the odd ones.
	const rounds = 10000
	list := meters(rounds)
	for round, m := range list {
		m.Turn(round%2 == 1)
	}
	did := make([][workers]bool, rounds)
	inStep(rounds, func(i, round int) {
		on := round%2 == 0
		did[round][i] = list[round].Turn(on) != on
	})
	holdOne(t, "P5.4: Turns the same way", did)
}

// recordOf: one whose fields all say the same.
func recordOf(n int) api.Record {
	return api.Record{At: n, Code: api.Errno(n), Session: uint32(n), Number: uint32(n)}
}

func TestRecordsTogether(t *testing.T) {
	// Each record comes out whole, and just once, or is there at the end.
	const rounds = 10000
	m := meter.New()
	found := make([][]int, workers)
	bare := make([][workers]bool, 1)
	withLookers(func(i int) {
		for k := range rounds {
			r, ok := m.Note(recordOf(i*rounds + k))
			if r != recordOf(r.At) {
				t.Errorf("P5.5: Note: %+v, which was never noted", r)
			}
			if ok {
				found[i] = append(found[i], r.At)
			} else {
				bare[0][i] = true
			}
		}
	}, func() {
		if r, ok := m.Last(); r != recordOf(r.At) || !ok && r != none {
			t.Errorf("P5.5: Last: %+v, %v, which was never noted", r, ok)
		}
	})
	last, ok := m.Last()
	whole := append(slices.Concat(found...), last.At)
	slices.Sort(whole)
	if len(whole) != workers*rounds || !ok {
		t.Fatalf("P5.5: of %d records %d came out; Last %v", workers*rounds, len(whole), ok)
	}
	for i, n := range whole {
		if n != i {
			t.Fatalf("P5.5: the record %d came out twice or never", i)
		}
	}
	holdOne(t, "P5.5: Notes that found no record", bare)
}

func TestOneFirstNote(t *testing.T) {
	const rounds = 10000
	list := meters(rounds)
	did := make([][workers]bool, rounds)
	inStep(rounds, func(i, round int) {
		_, ok := list[round].Note(recordOf(i))
		did[round][i] = !ok
	})
	holdOne(t, "P5.5: Notes that found no record", did)
}

func TestAllTogether(t *testing.T) {
	// What one touches is nothing to what another does.
	const each = 2000
	m := meter.New()
	together(func(i int) {
		for k := range each {
			m.Add(1)
			m.Raise(int64(k*workers + i))
			m.Set(1 << i)
			m.Clear(1 << (16 + i))
			m.Turn(true)
			m.Note(recordOf(5))
			var bare *meter.Meter
			bare.Add(1)
			bare.Note(recordOf(6))
		}
	})
	holdLook(t, "P5.6", m, look{total: workers * each, peak: workers*each - 1, raised: true, flags: 1<<workers - 1, on: true, last: recordOf(5), noted: true})
}
