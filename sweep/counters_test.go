package sweep

import (
	"slices"
	"testing"

	"parapet/api"
	"parapet/world"
)

// No world has a bad history: how bad ones are counted is to be seen only from within.

// spoken: a net, and the facts of a world in which a value has gone each way.
func spoken(t *testing.T) (api.Net, []api.Fact) {
	t.Helper()
	p := api.Param{Code: 7, Out: 2, In: 1, Watch: 10, Count: 100}
	n := api.Net{Hosts: []api.Param{p}, Devices: []api.Param{p}, MaxSession: 9}
	w, e := world.New(n)
	if e != api.OK {
		t.Fatalf("P17.1: New(%+v): %d", n, e)
	}
	for range 4 {
		w.Play(api.Move{Kind: api.MoveSend})
		w.Play(api.Move{Kind: api.MoveDeliver, Side: api.AtDevice, Frame: w.Frames() - 1})
		w.Play(api.Move{Kind: api.MoveDeliver, Side: api.AtHost, Frame: w.Frames() - 1})
	}
	return n, w.Facts()
}

func counted(t *testing.T, c *counters, want api.Tally) {
	t.Helper()
	if got := c.tally(); got != want {
		t.Errorf("P22.2: counted are %+v, not %+v", got, want)
	}
}

// Bad: each history in which a rule is broken, once, whichever the rule and the fact are.
func TestBadHistoriesAreCounted(t *testing.T) {
	n, facts := spoken(t)
	c := &counters{}
	c.countHistory(n, nil)
	counted(t, c, api.Tally{})
	c.countHistory(n, facts)
	counted(t, c, api.Tally{Taken: 2})
	// The very first fact, whose number is 0, breaks rule 1.
	c.countHistory(n, []api.Fact{{}})
	counted(t, c, api.Tally{Bad: 1, Taken: 2})
	// Two are taken again, each against rule 3; and the last output is none that was taken.
	for i := range facts {
		if facts[i].Kind == api.FactTaken {
			c.countHistory(n, slices.Insert(slices.Clone(facts), i, facts[i]))
		}
	}
	counted(t, c, api.Tally{Bad: 3, Taken: 8})
	last := facts[len(facts)-1]
	last.Data = []byte{1, 2, 3}
	c.countHistory(n, append(slices.Clone(facts), last, last, last))
	counted(t, c, api.Tally{Bad: 4, Taken: 10})
	// It goes by the net's watches.
	c.countHistory(n, []api.Fact{{Kind: api.FactTick, Side: api.AtHost, Number: 9}, {Kind: api.FactOut, Side: api.AtHost}})
	counted(t, c, api.Tally{Bad: 4, Taken: 10})
	c.countHistory(n, []api.Fact{{Kind: api.FactTick, Side: api.AtHost, Number: 10}, {Kind: api.FactOut, Side: api.AtHost}})
	counted(t, c, api.Tally{Bad: 5, Taken: 10})
}

// Latched and On are of one end each, whatever the fault is.
func TestEndsAreCounted(t *testing.T) {
	c := &counters{}
	c.countEnd(api.End{})
	c.countEnd(api.End{State: api.Running, Session: 1, Request: true, Out: []byte{1}})
	counted(t, c, api.Tally{})
	for _, fault := range []api.Errno{api.ErrWatchdog, api.ErrResync, api.ErrExhausted} {
		c.countEnd(api.End{Latched: fault})
	}
	counted(t, c, api.Tally{Latched: 3})
	c.countEnd(api.End{On: true})
	c.countEnd(api.End{On: true, Latched: api.ErrWatchdog})
	counted(t, c, api.Tally{Latched: 4, On: 2})
}

// Every list of moves has one number.
func TestEveryScriptHasItsNumber(t *testing.T) {
	for length := 1; length <= api.MaxAlpha; length++ {
		var alphabet []api.Move
		for i := range length {
			alphabet = append(alphabet, api.Move{N: i})
		}
		for depth := range api.MaxDepth + 1 {
			size, e := Size(length, depth)
			if e != api.OK {
				continue
			}
			s := &search{alphabet: alphabet, depth: depth, size: size}
			seen := map[[api.MaxDepth]int]int{}
			for number := range size {
				var places [api.MaxDepth]int
				for i, m := range s.script(number) {
					places[i] = m.N
				}
				seen[places]++
			}
			if len(seen) != size {
				t.Errorf("P22.2: %d moves, depth %d: %d lists, not %d", length, depth, len(seen), size)
			}
		}
	}
}
