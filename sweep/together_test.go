package sweep_test

import (
	"runtime"
	"sync"
	"testing"
	"time"

	"parapet/api"
	"parapet/sweep"
)

// R8: the same call many times.
func TestTheSameCallAgain(t *testing.T) {
	alphabet := steps(8)
	want := holds(t, one(), flowing(), alphabet, 2)
	for range 150 {
		comesTo(t, one(), flowing(), alphabet, 2, want)
	}
	// Nor does it hang on how many run at one time.
	defer runtime.GOMAXPROCS(runtime.GOMAXPROCS(0))
	for _, n := range []int{1, 2, 3, 16} {
		runtime.GOMAXPROCS(n)
		for range 10 {
			comesTo(t, one(), flowing(), alphabet, 2, want)
		}
	}
}

// R8: several calls at one time, over the same lists, and others between.
func TestSeveralCallsAtOneTime(t *testing.T) {
	asked := questions(t, &chance{at: 35}, 24)
	tallies, errors := make([]api.Tally, len(asked)), make([]api.Errno, len(asked))
	for i, q := range asked {
		tallies[i], errors[i] = q.ask()
	}
	var all sync.WaitGroup
	for i := range 8 {
		all.Go(func() {
			for k := range 2 * len(asked) {
				at := (k*(2*i+1) + i) % len(asked)
				if got, e := asked[at].ask(); got != tallies[at] || e != errors[at] {
					t.Errorf("R8: Explore(%+v): %+v, %d, then %+v, %d", asked[at], tallies[at], errors[at], got, e)
				}
			}
		})
	}
	all.Wait()
}

// None of those that are begun in a call stays behind it.
func TestNobodyStays(t *testing.T) {
	ahead := runtime.NumGoroutine()
	for range 50 {
		comesTo(t, one(), nil, []api.Move{tick(0, h, 10), tick(0, d, 10)}, 4, api.Tally{Runs: 16, Latched: 30})
		refuses(t, "a wrong depth", one(), nil, []api.Move{send(0)}, -1, api.ErrRange)
	}
	// One that has done its work may still be on its way out.
	for range 200 {
		if runtime.NumGoroutine() <= ahead {
			return
		}
		time.Sleep(10 * time.Millisecond)
	}
	t.Errorf("LANGUAGE 6: %d goroutines, and %d ahead of the calls", runtime.NumGoroutine(), ahead)
}

// P1: any moves; whatever is lawful comes to what the worlds do.
func FuzzAnyMoves(f *testing.F) {
	f.Add(int64(1), int64(0), int64(1), int64(0), int64(0), uint32(0), []byte{0xaa, 0xbb}, int64(2))
	f.Add(int64(4), int64(0), int64(2), int64(6), int64(150), uint32(1), []byte(nil), int64(3))
	f.Add(int64(top), int64(least), int64(top), int64(least), int64(top), uint32(1), []byte("123456789"), int64(top))
	f.Fuzz(func(t *testing.T, kind, conn, side, frame, number int64, word uint32, data []byte, depth int64) {
		m := api.Move{
			Kind: api.MoveKind(kind), Conn: int(conn), Side: api.Side(side), Frame: int(frame),
			At: int(number), Word: word, N: int(number), Hold: word%2 == 1, Data: data,
		}
		alphabet := []api.Move{m, send(0), {Kind: m.Kind % 9, Side: d, Frame: 6, Word: word, Data: data}}
		n := one()
		n.Hosts[0].Watch, n.MaxSession = 1+int(word%20), word
		got, e := sweep.Explore(n, append(flowing(), m), alphabet, int(depth))
		switch {
		case n.MaxSession == 0 || depth < 0 || depth > 4:
			if e != api.ErrRange || got != (api.Tally{}) {
				t.Fatalf("P22.2: %+v, %d, not ErrRange", got, e)
			}
		default:
			holds(t, n, append(flowing(), m), alphabet, int(depth))
		}
	})
}
