package gate_test

import (
	"math"
	"testing"

	"parapet/api"
	"parapet/gate"
)

// Codes with which a gate may fall: every number but OK may be one.
var codes = []api.Errno{api.ErrNil, api.ErrExhausted, api.ErrWatchdog, api.ErrResync, -1, 256, 1 << 32, math.MinInt64, math.MaxInt64}

// holdGate: all that one sees of a gate.
func holdGate(t *testing.T, g *gate.Gate, code api.Errno, times int) {
	t.Helper()
	// Twice: looking changes nothing.
	for range 2 {
		if got := g.Code(); got != code {
			t.Errorf("P6.1: Code: %d, not %d", got, code)
		}
		if got := g.Times(); got != times {
			t.Errorf("P6.1: Times: %d, not %d", got, times)
		}
	}
}

func holdTrip(t *testing.T, g *gate.Gate, code api.Errno, want bool) {
	t.Helper()
	if got := g.Trip(code); got != want {
		t.Errorf("P6.1: Trip(%d): %v, not %v", code, got, want)
	}
}

func holdLift(t *testing.T, g *gate.Gate, want api.Errno) {
	t.Helper()
	if got := g.Lift(); got != want {
		t.Errorf("P6.1: Lift: %d, not %d", got, want)
	}
}

func TestGateOfTheChapter(t *testing.T) {
	g := gate.New()
	holdTrip(t, g, api.OK, false)
	holdTrip(t, g, 100, true)
	holdTrip(t, g, 131, false)
	holdGate(t, g, 100, 2)
	holdLift(t, g, 100)
	holdGate(t, g, api.OK, 0)
	holdTrip(t, g, 131, true)
	holdGate(t, g, 131, 1)
}

func TestNewGate(t *testing.T) {
	g := gate.New()
	if g == nil {
		t.Fatal("P6.1: New answers nil")
	}
	holdGate(t, g, api.OK, 0)
	g.Trip(api.ErrWatchdog)
	// One that fell is nothing to the next that is made.
	holdGate(t, gate.New(), api.OK, 0)
	holdGate(t, g, api.ErrWatchdog, 1)
}

func TestTripOfNothing(t *testing.T) {
	g := gate.New()
	for range 3 {
		holdTrip(t, g, api.OK, false)
		holdGate(t, g, api.OK, 0)
	}
	holdTrip(t, g, api.ErrStale, true)
	for range 3 {
		holdTrip(t, g, api.OK, false)
		holdGate(t, g, api.ErrStale, 1)
	}
	holdTrip(t, g, api.ErrCut, false)
	holdTrip(t, g, api.OK, false)
	holdGate(t, g, api.ErrStale, 2)
	holdLift(t, g, api.ErrStale)
	holdTrip(t, g, api.OK, false)
	holdGate(t, g, api.OK, 0)
}

func TestTheFirstCodeStays(t *testing.T) {
	for _, first := range codes {
		for _, next := range codes {
			g := gate.New()
			holdTrip(t, g, first, true)
			holdGate(t, g, first, 1)
			holdTrip(t, g, next, false)
			holdGate(t, g, first, 2)
			holdTrip(t, g, first, false)
			holdGate(t, g, first, 3)
			holdLift(t, g, first)
			holdGate(t, g, api.OK, 0)
			holdTrip(t, g, next, true)
			holdGate(t, g, next, 1)
		}
	}
}

func TestTimes(t *testing.T) {
	g := gate.New()
	for round, n := range []int{0, 1, 2, 3, 17, 1000, 0, 5, 1} {
		for i := range n {
			holdTrip(t, g, api.Errno(i+round+1), i == 0)
			if got := g.Times(); got != i+1 {
				t.Fatalf("P6.1: Times behind %d Trips: %d", i+1, got)
			}
		}
		fell := api.OK
		if n > 0 {
			fell = api.Errno(round + 1)
		}
		holdGate(t, g, fell, n)
		holdLift(t, g, fell)
		holdGate(t, g, api.OK, 0)
	}
}

func TestLift(t *testing.T) {
	g := gate.New()
	for range 3 {
		holdLift(t, g, api.OK)
		holdGate(t, g, api.OK, 0)
	}
	holdTrip(t, g, api.ErrResync, true)
	holdTrip(t, g, api.ErrWatchdog, false)
	holdLift(t, g, api.ErrResync)
	for range 3 {
		holdLift(t, g, api.OK)
		holdGate(t, g, api.OK, 0)
	}
	// The same code again, which is a new fall.
	holdTrip(t, g, api.ErrResync, true)
	holdTrip(t, g, api.ErrResync, false)
	holdGate(t, g, api.ErrResync, 2)
	holdLift(t, g, api.ErrResync)
}

func TestLiftOften(t *testing.T) {
	g := gate.New()
	for i := range 1000 {
		code := api.Errno(i%7 + 1)
		holdTrip(t, g, code, true)
		holdTrip(t, g, code+1, false)
		holdGate(t, g, code, 2)
		holdLift(t, g, code)
	}
	holdGate(t, g, api.OK, 0)
}

func TestNilGate(t *testing.T) {
	var g *gate.Gate
	for _, code := range append([]api.Errno{api.OK}, codes...) {
		for range 2 {
			if g.Trip(code) {
				t.Errorf("R7: a nil gate: Trip(%d) true", code)
			}
			if got := g.Code(); got != api.OK {
				t.Errorf("R7: a nil gate: Code %d", got)
			}
			if got := g.Times(); got != 0 {
				t.Errorf("R7: a nil gate: Times %d", got)
			}
			if got := g.Lift(); got != api.OK {
				t.Errorf("R7: a nil gate: Lift %d", got)
			}
		}
	}
	// And it is nothing to one that is there.
	other := gate.New()
	other.Trip(api.ErrCut)
	g.Lift()
	g.Trip(api.ErrStale)
	holdGate(t, other, api.ErrCut, 1)
}

func TestGateThatWasNotMade(t *testing.T) {
	// P1: no call panics, at a gate that New has not made neither.
	var g gate.Gate
	holdGate(t, &g, api.OK, 0)
	holdLift(t, &g, api.OK)
	holdTrip(t, &g, api.ErrShort, true)
	holdGate(t, &g, api.ErrShort, 1)
}

func TestTwoGatesInTurns(t *testing.T) {
	a, b := gate.New(), gate.New()
	holdTrip(t, a, 100, true)
	holdGate(t, b, api.OK, 0)
	holdTrip(t, b, 131, true)
	holdTrip(t, a, 80, false)
	holdGate(t, a, 100, 2)
	holdGate(t, b, 131, 1)
	holdLift(t, a, 100)
	holdGate(t, b, 131, 1)
	holdTrip(t, b, 7, false)
	holdGate(t, a, api.OK, 0)
	holdTrip(t, a, 80, true)
	holdLift(t, b, 131)
	holdGate(t, a, 80, 1)
	holdGate(t, b, api.OK, 0)
}

// plainGate is what a gate is to the document's words, for one at a time.
type plainGate struct {
	code  api.Errno
	times int
}

func (p *plainGate) trip(code api.Errno) bool {
	if code == api.OK {
		return false
	}
	p.times++
	if p.code != api.OK {
		return false
	}
	p.code = code
	return true
}

func (p *plainGate) lift() api.Errno {
	code := p.code
	*p = plainGate{}
	return code
}

// steps answers numbers that look mixed, the same ones in every run.
type steps uint64

func (s *steps) below(n int) int {
	*s = *s*6364136223846793005 + 1442695040888963407
	return int(uint64(*s) >> 33 % uint64(n))
}

func TestGatesGoByTheDocument(t *testing.T) {
	var plain [3]plainGate
	gates := [3]*gate.Gate{gate.New(), gate.New(), gate.New()}
	s := steps(1)
	for range 30000 {
		i := s.below(len(gates))
		switch s.below(6) {
		case 0:
			holdLift(t, gates[i], plain[i].lift())
		case 1:
			holdTrip(t, gates[i], api.OK, plain[i].trip(api.OK))
		default:
			code := codes[s.below(len(codes))]
			holdTrip(t, gates[i], code, plain[i].trip(code))
		}
		for k, g := range gates {
			holdGate(t, g, plain[k].code, plain[k].times)
		}
		if t.Failed() {
			t.FailNow()
		}
	}
}
