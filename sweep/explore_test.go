package sweep_test

import (
	"slices"
	"testing"

	"parapet/api"
)

// The chapter's example.
func TestExploreExample(t *testing.T) {
	p := seven
	p.Watch = 1
	comesTo(t, netOf(p), nil, []api.Move{tick(0, h, 1), tick(0, d, 1)}, 2, api.Tally{Runs: 4, Latched: 6})
}

// No move at all: one world, as its beginning leaves it.
func TestExploreOfDepthNothing(t *testing.T) {
	some := []api.Move{tick(0, h, 10), tick(0, d, 10), send(0)}
	for length := 1; length <= 16; length++ {
		alphabet := slices.Repeat(some, 6)[:length]
		comesTo(t, one(), nil, alphabet, 0, api.Tally{Runs: 1})
		comesTo(t, one(), []api.Move{}, alphabet, 0, api.Tally{Runs: 1})
		comesTo(t, one(), flowing(), alphabet, 0, api.Tally{Runs: 1, Taken: 2, On: 2})
		comesTo(t, one(), append(flowing(), tick(0, d, 10)), alphabet, 0, api.Tally{Runs: 1, Taken: 2, On: 1, Latched: 1})
	}
}

// Reckoned by hand, field by field, behind a beginning after which both outputs are on.
func TestExploreByHand(t *testing.T) {
	for _, c := range []struct {
		alphabet []api.Move
		depth    int
		want     api.Tally
	}{
		// A watchdog each, and a reset.
		{[]api.Move{tick(0, h, 10), tick(0, d, 10), reset(0, h, 0)}, 1, api.Tally{Runs: 3, Taken: 6, Latched: 2, On: 3}},
		// hh, hd, dh, dd.
		{[]api.Move{tick(0, h, 10), tick(0, d, 10)}, 2, api.Tally{Runs: 4, Taken: 8, Latched: 6, On: 2}},
		// Ticks are of one world: only two of five make ten.
		{[]api.Move{tick(0, d, 5)}, 1, api.Tally{Runs: 1, Taken: 2, On: 2}},
		{[]api.Move{tick(0, d, 5)}, 2, api.Tally{Runs: 1, Taken: 2, Latched: 1, On: 1}},
		// Frame 8 is there behind a sending alone: of four lists one takes it.
		{[]api.Move{send(0), give(0, d, 8)}, 2, api.Tally{Runs: 4, Taken: 9, On: 8}},
		// And its answer behind that: sending, giving, giving back.
		{[]api.Move{send(0), give(0, d, 8), give(0, h, 9)}, 3, api.Tally{Runs: 27, Taken: 54 + 7 + 1, On: 54}},
		// A stale frame four times makes the device give up.
		{[]api.Move{give(0, d, 6)}, 3, api.Tally{Runs: 1, Taken: 2, On: 2}},
		{[]api.Move{give(0, d, 6)}, 4, api.Tally{Runs: 1, Taken: 2, Latched: 1, On: 1}},
		// A fault that is reset within the list isn't shown at its end.
		{[]api.Move{tick(0, d, 10), reset(0, d, 0)}, 2, api.Tally{Runs: 4, Taken: 8, Latched: 2, On: 4}},
		// Nor is what a garbled frame brings.
		{[]api.Move{garble(0, d, 6, 3, 1), garble(0, h, 7, 9, 0xff)}, 4, api.Tally{Runs: 16, Taken: 32, On: 32}},
	} {
		comesTo(t, one(), flowing(), c.alphabet, c.depth, c.want)
		if got := wantTally(t, one(), flowing(), c.alphabet, c.depth); got != c.want {
			t.Errorf("one after the other: %+v, not %+v", got, c.want)
		}
	}
}

// The beginning is played ahead of the list, and in its order.
func TestExploreKeepsTheOrder(t *testing.T) {
	list := flowing()
	for at := range len(list) + 1 {
		if rest := list[at:]; len(rest) <= 4 {
			// Out of the rest as an alphabet one list at least is the rest itself.
			if got := holds(t, one(), list[:at], append(slices.Clone(rest), send(0)), len(rest)); got.Taken < 1 {
				t.Errorf("P22.2: behind %d moves nothing is taken: %+v", at, got)
			}
		}
	}
	back := slices.Clone(list)
	slices.Reverse(back)
	comesTo(t, one(), back, []api.Move{tick(0, h, 0)}, 1, api.Tally{Runs: 1})
}

// steps: as many moves as an alphabet may have, behind a beginning after which the next frame is this one.
func steps(frame int) []api.Move {
	return []api.Move{
		send(0), give(0, d, frame), give(0, h, frame+1), give(0, d, frame-1), give(0, h, frame-1), give(0, d, 0),
		give(0, h, 1), garble(0, d, frame, 11, 0x80000001), tick(0, h, 5), tick(0, d, 10), ack(0, h), ack(0, d),
		reset(0, h, 0), reset(0, d, 2), cut(0, 3), write(0, h, 1, 2),
	}
}

// Every length of an alphabet, and every depth that goes with it, up to a number of worlds.
func TestExploreOfEveryLength(t *testing.T) {
	all := steps(8)
	for length := 1; length <= 16; length++ {
		for depth := 0; depth <= 4; depth++ {
			runs := 1
			for range depth {
				runs *= length
			}
			if runs > 300 {
				continue
			}
			// From another place on each time, so that each move stands in short ones too.
			alphabet := slices.Concat(all[length-1:], all[:length-1])[:length]
			if got := holds(t, one(), flowing(), alphabet, depth); got.Runs != runs {
				t.Errorf("P22.2: %d moves, depth %d: %d runs, not %d", length, depth, got.Runs, runs)
			}
		}
	}
}

// The greatest sizes: 16 to 3 and 8 to 4.
func TestExploreOfTheGreatestSizes(t *testing.T) {
	all := steps(8)
	for _, first := range [][]api.Move{nil, exchanges(0, 0, 2), flowing()} {
		if got := holds(t, one(), first, all, 3); got.Runs != 4096 {
			t.Errorf("P22.2: %+v, not 4096 runs", got)
		}
		if got := holds(t, one(), first, []api.Move{all[0], all[1], all[2], all[5], all[9], all[11], all[12], all[13]}, 4); got.Runs != 4096 {
			t.Errorf("P22.2: %+v, not 4096 runs", got)
		}
	}
	// Behind as many moves as a beginning may have.
	long := append(flowing(), exchanges(0, 8, 80)...)
	long = append(long, times(256-len(long), tick(0, h, 1))...)
	if got := holds(t, one(), long, steps(168), 2); got.Taken < 256*160 {
		t.Errorf("P22.2: too little is taken: %+v", got)
	}
}

// What is refused is passed over, in the beginning and in the list: it changes nothing.
func TestExploreOfRefusedMoves(t *testing.T) {
	var mixed []api.Move
	for i, m := range flowing() {
		mixed = append(mixed, refused[i%len(refused)], m)
	}
	mixed = append(mixed, refused...)
	comesTo(t, one(), refused, refused, 3, api.Tally{Runs: 15 * 15 * 15})
	comesTo(t, one(), mixed, refused, 2, api.Tally{Runs: 225, Taken: 450, On: 450})
	for _, m := range refused {
		comesTo(t, one(), mixed, []api.Move{m}, 4, api.Tally{Runs: 1, Taken: 2, On: 2})
		// Of mm, mt, tm and tt three have the tick.
		comesTo(t, one(), mixed, []api.Move{m, tick(0, d, 10)}, 2, api.Tally{Runs: 4, Taken: 8, Latched: 3, On: 5})
		holds(t, one(), mixed, []api.Move{m, send(0), give(0, d, 8)}, 3)
	}
	// A move that is played and answered with an error isn't refused, and changes as much as it does.
	holds(t, one(), mixed, []api.Move{write(0, h, 1), ack(0, d), give(0, d, 7), send(0)}, 3)
}

// The same move twice in an alphabet counts twice.
func TestExploreOfTheSameMoveTwice(t *testing.T) {
	comesTo(t, one(), flowing(), times(2, tick(0, d, 10)), 1, api.Tally{Runs: 2, Taken: 4, Latched: 2, On: 2})
	comesTo(t, one(), flowing(), times(2, tick(0, d, 10)), 4, api.Tally{Runs: 16, Taken: 32, Latched: 16, On: 16})
	comesTo(t, one(), nil, times(16, tick(0, h, 10)), 3, api.Tally{Runs: 4096, Latched: 4096})
	// Of nine lists the one of two zero ticks leaves the outputs on.
	comesTo(t, one(), flowing(), []api.Move{tick(0, d, 10), tick(0, d, 0), tick(0, d, 10)}, 2, api.Tally{Runs: 9, Taken: 18, Latched: 8, On: 10})
	holds(t, one(), flowing(), []api.Move{send(0), give(0, d, 8), send(0), give(0, d, 8), reset(0, d, 0)}, 3)
}

// All connections are looked at, also those that have no move.
func TestExploreOfSeveralConnections(t *testing.T) {
	for conns := 1; conns <= api.MaxConns; conns++ {
		n := many(conns)
		var first, alphabet []api.Move
		for k := range conns {
			first = append(first, exchanges(k, len(first)/3*2, 4)...)
			alphabet = append(alphabet, tick(k, d, n.Devices[k].Watch))
		}
		// All come up, and take a value each way.
		comesTo(t, n, first, alphabet, 0, api.Tally{Runs: 1, Taken: 2 * conns, On: 2 * conns})
		comesTo(t, n, first, alphabet, 1, api.Tally{Runs: conns, Taken: 2 * conns * conns, Latched: conns, On: (2*conns - 1) * conns})
		holds(t, n, first, append(alphabet, send(conns-1), give(0, h, 0), reset(conns-1, h, 0)), 2)
		comesTo(t, n, nil, []api.Move{tick(conns-1, h, n.Hosts[conns-1].Watch)}, 1, api.Tally{Runs: 1, Latched: 1})
	}
	// Frames go to another connection's end, too.
	holds(t, many(2), exchanges(0, 0, 4), []api.Move{give(1, d, 0), give(1, h, 1), send(1), give(1, d, 8), give(0, d, 8)}, 3)
}

// Ends whose sets are unlike, few sessions, few numbers.
func TestExploreOfOddNets(t *testing.T) {
	few, unlike, strangers := one(), one(), one()
	few.MaxSession, few.Hosts[0].Count, few.Devices[0].Count = 1, 3, 3
	unlike.Devices[0].Watch = 3
	strangers.Devices[0].Code = 8
	for _, n := range []api.Net{few, unlike, strangers} {
		for _, first := range [][]api.Move{nil, exchanges(0, 0, 3), append(flowing(), exchanges(0, 8, 1)...)} {
			holds(t, n, first, []api.Move{send(0), give(0, d, 10), reset(0, d, 0), give(0, d, 0), tick(0, d, 3)}, 3)
		}
	}
	// The numbers end at both ends.
	comesTo(t, few, append(flowing(), exchanges(0, 8, 2)...), []api.Move{send(0)}, 1, api.Tally{Runs: 1, Taken: 4, Latched: 2})
}
