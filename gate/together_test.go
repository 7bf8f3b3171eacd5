package gate_test

import (
	"runtime"
	"slices"
	"sync"
	"sync/atomic"
	"testing"

	"parapet/api"
	"parapet/gate"
)

// How many use a gate or a Lazy at one time.
const workers = 8

// together runs one worker a number, all let go at once, and waits for them.
func together(work func(i int)) {
	begin := make(chan struct{})
	var group sync.WaitGroup
	for i := range workers {
		group.Go(func() {
			<-begin
			work(i)
		})
	}
	close(begin)
	group.Wait()
}

// inStep has the workers begin each round at one time, as far as that can be
// had: they wait for each other for a while only, since on a busy machine some
// may be far behind. So what a round is held to must be true without waiting, too.
func inStep(rounds int, work func(i, round int)) {
	here := make([]atomic.Int32, rounds)
	together(func(i int) {
		for round := range rounds {
			here[round].Add(1)
			for tries := 0; tries < 100 && here[round].Load() < workers; tries++ {
				runtime.Gosched()
			}
			work(i, round)
		}
	})
}

// gates: so many new ones.
func gates(n int) []*gate.Gate {
	out := make([]*gate.Gate, n)
	for i := range out {
		out[i] = gate.New()
	}
	return out
}

// holdOne: of the workers just one did it; which one.
func holdOne(t *testing.T, what string, did [workers]bool) int {
	t.Helper()
	one := slices.Index(did[:], true)
	if one < 0 || slices.Contains(did[one+1:], true) {
		t.Fatalf("%s: who did it: %v", what, did)
	}
	return one
}

func TestOneTripOfSeveral(t *testing.T) {
	const rounds = 5000
	list := gates(rounds)
	did := make([][workers]bool, rounds)
	inStep(rounds, func(i, round int) {
		g := list[round]
		did[round][i] = g.Trip(api.Errno(i + 1))
		// Whoever was the first: it has fallen, and this one was counted.
		code, times := g.Code(), g.Times()
		if code < 1 || code > workers || times < 1 || times > workers {
			t.Errorf("P6.1: behind a Trip: Code %d, Times %d", code, times)
		}
		if did[round][i] && code != api.Errno(i+1) {
			t.Errorf("P6.1: Trip(%d) true, but Code %d", i+1, code)
		}
	})
	for round, g := range list {
		one := holdOne(t, "P6.1: Trips at one time", did[round])
		holdGate(t, g, api.Errno(one+1), workers)
	}
}

func TestNoTripIsLost(t *testing.T) {
	const each = 20000
	g := gate.New()
	together(func(i int) {
		for k := range each {
			g.Trip(api.Errno(k%3 + 1))
			g.Trip(api.OK)
		}
	})
	holdGate(t, g, 1, workers*each)
}

func TestTripsAndLifts(t *testing.T) {
	// Each fall is lifted just once, with its own code, or is there at the end.
	const each = 5000
	g := gate.New()
	fell, lifted := make([][]api.Errno, workers), make([][]api.Errno, workers)
	together(func(i int) {
		for k := range each {
			code := api.Errno(i*each + k + 1)
			if g.Trip(code) {
				fell[i] = append(fell[i], code)
			}
			if k%3 == i%3 {
				lifted[i] = append(lifted[i], g.Lift())
			}
		}
	})
	all := slices.Concat(fell...)
	back := append(slices.Concat(lifted...), g.Code())
	back = slices.DeleteFunc(back, func(code api.Errno) bool { return code == api.OK })
	slices.Sort(all)
	slices.Sort(back)
	if !slices.Equal(all, back) {
		t.Errorf("P6.1: of %d falls %d were lifted or are there", len(all), len(back))
	}
}

func TestOneLiftOfSeveral(t *testing.T) {
	const rounds = 5000
	list := gates(rounds)
	for round, g := range list {
		g.Trip(api.Errno(round + 1))
	}
	did := make([][workers]bool, rounds)
	inStep(rounds, func(i, round int) {
		code := list[round].Lift()
		if code != api.OK && code != api.Errno(round+1) {
			t.Errorf("P6.1: Lift: %d, not %d", code, round+1)
		}
		did[round][i] = code != api.OK
		if code, times := list[round].Code(), list[round].Times(); code != api.OK || times != 0 {
			t.Errorf("P6.1: behind a Lift: Code %d, Times %d", code, times)
		}
	})
	for _, who := range did {
		holdOne(t, "P6.1: Lifts at one time", who)
	}
}

func TestFallIsSeenWhole(t *testing.T) {
	// One sees a gate that is lifted, with nothing counted, or one that fell, with something counted.
	const rounds = 5000
	list := gates(rounds)
	inStep(rounds, func(i, round int) {
		g := list[round]
		if i == round%workers {
			g.Trip(api.ErrWatchdog)
			return
		}
		if round%2 == 0 {
			if times, code := g.Times(), g.Code(); times != 0 && code != api.ErrWatchdog {
				t.Errorf("P6.1: Times %d, then Code %d", times, code)
			}
		} else if code, times := g.Code(), g.Times(); code != api.OK && times != 1 {
			t.Errorf("P6.1: Code %d, then Times %d", code, times)
		}
	})
}

// lingering is a function that gives the others time to come to Get while it runs.
func lingering(calls *atomic.Int32, value int) func() int {
	return func() int {
		calls.Add(1)
		for range 20 {
			runtime.Gosched()
		}
		return value
	}
}

func TestOneMakesTheValue(t *testing.T) {
	const rounds = 3000
	calls := make([]atomic.Int32, rounds)
	list := make([]*gate.Lazy[int], rounds)
	for round := range list {
		list[round] = gate.Make(lingering(&calls[round], round+1))
	}
	inStep(rounds, func(i, round int) {
		l := list[round]
		for range 2 {
			if got := l.Get(); got != round+1 {
				t.Errorf("P6.2: Get: %d, not %d", got, round+1)
			}
			if !l.Made() {
				t.Error("P6.2: Made is false behind Get")
			}
		}
	})
	for round := range calls {
		holdCalls(t, int(calls[round].Load()), 1)
	}
}

func TestOneGetPanics(t *testing.T) {
	const rounds = 3000
	calls := make([]atomic.Int32, rounds)
	list := make([]*gate.Lazy[int], rounds)
	for round := range list {
		linger := lingering(&calls[round], 0)
		list[round] = gate.Make(func() int { linger(); panic(round) })
	}
	did := make([][workers]bool, rounds)
	inStep(rounds, func(i, round int) {
		l, answer := list[round], 0
		value, panicked := thrown(func() { answer = l.Get() })
		if panicked && value != round {
			t.Errorf("P6.2: Get panics with %v, not %d", value, round)
		}
		if answer != 0 || l.Made() {
			t.Errorf("P6.2: f panicked: Get %d, Made %v", answer, l.Made())
		}
		did[round][i] = panicked
	})
	for round := range calls {
		holdOne(t, "P6.2: Gets that panic", did[round])
		holdCalls(t, int(calls[round].Load()), 1)
	}
}

func TestMadeWhileOthersGet(t *testing.T) {
	// Where Made is true, Get has what f answered, whoever called it; and Made stays.
	const rounds = 3000
	calls := make([]atomic.Int32, rounds)
	list := make([]*gate.Lazy[int], rounds)
	for round := range list {
		list[round] = gate.Make(lingering(&calls[round], round+1))
	}
	inStep(rounds, func(i, round int) {
		l := list[round]
		if i == round%workers {
			l.Get()
			return
		}
		for range 30 {
			if l.Made() {
				if got := l.Get(); got != round+1 || !l.Made() {
					t.Errorf("P6.2: behind Made true: Get %d, Made %v", got, l.Made())
				}
			}
			runtime.Gosched()
		}
	})
	for round := range calls {
		holdCalls(t, int(calls[round].Load()), 1)
		holdMade(t, list[round], true)
	}
}

func TestNothingTogether(t *testing.T) {
	var bare *gate.Gate
	var lazy *gate.Lazy[int]
	empty := gate.Make[string](nil)
	together(func(i int) {
		for range 1000 {
			if bare.Trip(5) || bare.Code() != 0 || bare.Times() != 0 || bare.Lift() != 0 {
				t.Error("R7: a nil gate holds something")
			}
			if lazy.Get() != 0 || lazy.Made() || empty.Get() != "" || empty.Made() {
				t.Error("R7: a Lazy of nothing holds something")
			}
		}
	})
}
