package ghost_test

import (
	"testing"

	"parapet/api"
	"parapet/ghost"
)

func TestChaptersExamples(t *testing.T) {
	n := one()
	good(t, n, off(h, 0, 0))
	breaks(t, n, 2, taken(d, 1, 1, 5))
	breaks(t, n, 2, sent(h, 1, 1, 5), session(1), taken(d, 1, 1, 5))
	up := []api.Fact{session(1), sent(h, 1, 1, 5), taken(d, 1, 1, 5)}
	good(t, n, up...)
	up = then(up, on(d, 0, 5))
	good(t, n, up...)
	late := then(up, tick(d, 10))
	breaks(t, n, 6, then(late, on(d, 0, 5))...)
	breaks(t, n, 7, then(late, off(d, 0, 0))...)
	good(t, n, then(late, off(d, 100, 0))...)
	good(t, n, then(late, off(d, 100, 0), fresh(d), ack(d), off(d, 0, 0))...)
	// Where the ticks have come to the watch rule 7 is ahead of rule 8, so rule 8 is seen where they haven't.
	latched := then(up, off(d, 100, 0))
	breaks(t, n, 8, then(latched, off(d, 0, 0))...)
	breaks(t, n, 8, then(latched, ack(d), off(d, 0, 0))...)
	good(t, n, then(latched, fresh(d), ack(d), off(d, 0, 0))...)
	breaks(t, n, 7, then(late, off(d, 100, 0), off(d, 0, 0))...)
	breaks(t, n, 7, then(late, off(d, 100, 0), ack(d), off(d, 0, 0))...)
}

// As many connections as the lesser number, of any net.
func TestConnections(t *testing.T) {
	for hosts := range 12 {
		for devices := range 12 {
			n := api.Net{Hosts: make([]api.Param, hosts), Devices: make([]api.Param, devices)}
			for conn := -2; conn < 14; conn++ {
				for _, s := range []api.Side{h, d} {
					f := at(conn, fresh(s))
					if conn >= 0 && conn < hosts && conn < devices {
						good(t, n, f)
					} else {
						breaks(t, n, 1, f)
					}
				}
			}
		}
	}
	n := netOf(make([]api.Param, 1000)...)
	good(t, n, at(999, fresh(d)))
	breaks(t, n, 1, at(1000, fresh(d)))
}

// Neither the sets nor the sessions need be lawful, nor alike.
func TestAnyNet(t *testing.T) {
	for _, n := range []api.Net{
		{},
		{MaxSession: 9},
		{Hosts: []api.Param{seven}},
		{Devices: []api.Param{seven}},
		{Hosts: []api.Param{{}, {}}, Devices: []api.Param{{}}},
		{Hosts: []api.Param{seven, seven}, Devices: []api.Param{seven, seven}},
		{Hosts: []api.Param{{Code: 1, Out: -1, In: 99, Watch: 10}}, Devices: []api.Param{{Code: 2, Out: least, In: top, Watch: 10}}},
	} {
		verdict(t, n, session(1), sent(h, 1, 1, 5), taken(d, 1, 1, 5), off(d, 100), at(1, off(h, 100)))
		if got := ghost.Check(n, nil); got != (api.Verdict{}) {
			t.Errorf("P18.1: Check(%+v, none): %+v", n, got)
		}
	}
	// Sets without a code, with no bytes in either direction, and no sessions: only the watch counts.
	n := api.Net{Hosts: []api.Param{{Watch: 1}}, Devices: []api.Param{{Watch: 1}}}
	good(t, n, holds(d, 5, 6, 7)...)
	good(t, n, holds(h, make([]byte, 300)...)[:4]...)
	good(t, n, holds(h, 1, 2, 3, 4, 5, 6, 7, 8, 9)...)
}

// Each end goes by its own watch.
func TestWatchesAreTheirs(t *testing.T) {
	n := netOf(seven, seven, seven)
	for k := range n.Hosts {
		n.Hosts[k].Watch, n.Devices[k].Watch = 5+k, 50+10*k
	}
	n.Devices = append(n.Devices, api.Param{Watch: 1})
	for k := range n.Hosts {
		for _, s := range []api.Side{h, d} {
			watch := uint32(n.Hosts[k].Watch)
			if s == d {
				watch = uint32(n.Devices[k].Watch)
			}
			good(t, n, at(k, tick(s, watch-1)), at(k, off(s, 0)))
			breaks(t, n, 7, at(k, tick(s, watch)), at(k, off(s, 0)))
		}
	}
}

// Watches below 1: the ticks have come to them at once, and always.
func TestWatchBelow1(t *testing.T) {
	for _, watch := range []int{0, -1, -2, -10, least + 1, least} {
		n := watching(watch, 10)
		good(t, n, off(h, 100, 0))
		good(t, n, off(d, 0, 0))
		breaks(t, n, 7, off(h, 0, 0))
		breaks(t, n, 7, fresh(h), off(h, 0, 0))
		breaks(t, n, 7, reset(h), off(h, 0, 0))
		breaks(t, n, 7, tick(h, 0), off(h, 0, 0))
		breaks(t, n, 7, tick(h, greatest), tick(h, greatest), tick(h, 1), off(h, 0, 0))
		breaks(t, n, 7, tick(h, 3), fresh(h), off(h, 0, 0))
		breaks(t, n, 7, off(h, 100), fresh(h), ack(h), off(h, 0))
		breaks(t, n, 6, then(sends(h, 5), taken(h, 1, 1, 5), on(h, 0, 5))...)
		breaks(t, n, 6, then(sends(h, 5), fresh(h), taken(h, 1, 1, 5), on(h, 100, 5))...)
		good(t, n, off(h, 100), fresh(h), ack(h), off(h, 131), tick(h, 9), off(h, 80))
		n = watching(10, watch)
		good(t, n, off(h, 0))
		breaks(t, n, 7, off(d, 0))
		breaks(t, n, 6, then(sends(d, 5), fresh(d), taken(d, 1, 1, 5), on(d, 0, 5))...)
	}
}

// Very great watches: ticks are counted to the last, and never wrap.
func TestGreatWatches(t *testing.T) {
	bothSides(t, func(t *testing.T, s api.Side) {
		full := tick(s, greatest)
		n := watching(greatest, greatest)
		good(t, n, tick(s, greatest-1), off(s, 0))
		breaks(t, n, 7, full, off(s, 0))
		breaks(t, n, 7, tick(s, greatest-1), tick(s, 1), off(s, 0))
		breaks(t, n, 7, full, full, full, off(s, 0))
		n = watching(greatest+1, greatest+1)
		good(t, n, full, off(s, 0))
		breaks(t, n, 7, full, tick(s, 1), off(s, 0))
		breaks(t, n, 7, tick(s, 1), full, off(s, 0))
		n = watching(2*greatest, 2*greatest)
		good(t, n, full, tick(s, greatest-1), off(s, 0))
		breaks(t, n, 7, full, tick(s, greatest-1), tick(s, 1), off(s, 0))
		breaks(t, n, 7, full, full, full, off(s, 0))
		for _, watch := range []int{top, top - 1, 1 << 62} {
			var facts []api.Fact
			for range 100 {
				facts = append(facts, full, off(s, 0))
			}
			good(t, watching(watch, watch), facts...)
			for range 3000 {
				facts = append(facts, full, off(s, 0))
			}
			if got := ghost.Check(watching(watch, watch), facts); got != (api.Verdict{}) {
				t.Errorf("P18.1: %+v, at a watch of %d", got, watch)
			}
		}
		n = watching(1, 1)
		good(t, n, tick(s, 0), off(s, 0))
		breaks(t, n, 7, tick(s, 1), off(s, 0))
		breaks(t, n, 7, full, full, off(s, 0))
	})
}

// One that is nil has seen nothing, and sees nothing; one that New has not made knows no connection.
func TestNil(t *testing.T) {
	var j *ghost.Judge
	for _, f := range then(alphabet(), api.Fact{}, api.Fact{Kind: 99, Conn: -1}, at(-1, off(h, 0, 9)), at(top, taken(d, 1, 1, 5))) {
		if got := j.See(f); got != (api.Verdict{}) {
			t.Errorf("R7, P18.1: See(%+v) of nil: %+v", f, got)
		}
		if got := j.Verdict(); got != (api.Verdict{}) {
			t.Errorf("R7, P18.1: Verdict of nil: %+v", got)
		}
		z := new(ghost.Judge)
		if got := z.Verdict(); got != (api.Verdict{}) {
			t.Errorf("P18.1: Verdict ahead of all facts: %+v", got)
		}
		if got := z.See(f); got.At != 0 || got != z.Verdict() {
			t.Errorf("P1: See(%+v) without New: %+v, and Verdict %+v", f, got, z.Verdict())
		}
	}
}

// Behind the first fact that breaks a rule nothing is judged, whatever comes; of each rule.
func TestBehindABrokenRule(t *testing.T) {
	for rule, facts := range broken() {
		breaks(t, one(), rule, facts...)
		want := api.Verdict{Rule: rule, At: len(facts) - 1}
		j := ghost.New(one())
		for _, f := range facts {
			j.See(f)
		}
		for range 2 {
			for _, f := range alphabet() {
				if got := j.See(f); got != want || j.Verdict() != want {
					t.Errorf("P18.3: %+v behind %+v: %+v, %+v, not %+v", f, facts, got, j.Verdict(), want)
				}
			}
			for _, more := range broken() {
				for _, f := range more {
					if got := j.See(f); got != want || j.Verdict() != want {
						t.Errorf("P18.3: %+v behind %+v: %+v, %+v, not %+v", f, facts, got, j.Verdict(), want)
					}
				}
			}
		}
		for _, other := range broken() {
			if got := ghost.Check(one(), then(facts, other...)); got != want {
				t.Errorf("P18.3: %+v behind %+v: %+v, not %+v", other, facts, got, want)
			}
		}
	}
}

// broken: of each rule a history whose last fact breaks it.
func broken() map[int][]api.Fact {
	return map[int][]api.Fact{
		1: {fresh(h), at(1, fresh(h))},
		2: {session(1), sent(h, 1, 1, 5), taken(d, 1, 2, 5)},
		3: then(holds(d, 5), taken(d, 1, 1, 5)),
		4: then(holds(d, 5), on(d, 0, 6)),
		5: {off(h, 0, 0), off(h, 0, 0, 1)},
		6: then(holds(d, 5), on(d, 100, 5)),
		7: {tick(d, 9), off(d, 0), tick(d, 1), off(d, 0)},
		8: {off(d, 131), ack(d), off(d, 0)},
	}
}

// At counts every fact that was seen, of all kinds, ends and connections.
func TestAt(t *testing.T) {
	n := two()
	var facts []api.Fact
	for i := range 200 {
		for _, f := range []api.Fact{session(1), sent(h, 1, 1, 5), sent(d, 2, 1), fresh(d), tick(h, 1), fresh(h), ack(d), reset(h), off(d, 0), at(1, off(h, 0)), taken(d, 1, uint32(i), 9)} {
			if f.Kind == api.FactTaken {
				facts = append(facts, sent(h, f.Session, f.Number, f.Data...))
			}
			facts = append(facts, f)
			if got, want := ghost.Check(n, then(facts, api.Fact{})), (api.Verdict{Rule: 1, At: len(facts)}); got != want {
				t.Fatalf("P18.1: %+v behind %d facts, not %+v", got, len(facts), want)
			}
		}
	}
	if got := ghost.Check(n, facts); got != (api.Verdict{}) {
		t.Fatalf("P18.1: %+v", got)
	}
	long := make([]api.Fact, 1<<18)
	for i := range long {
		long[i] = fresh(d)
	}
	if got, want := ghost.Check(n, then(long, taken(d, 0, 0))), (api.Verdict{Rule: 2, At: 1 << 18}); got != want {
		t.Errorf("P18.1: %+v behind %d facts, not %+v", got, len(long), want)
	}
}
