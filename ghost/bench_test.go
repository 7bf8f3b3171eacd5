package ghost_test

import (
	"math"
	"slices"
	"testing"

	"parapet/api"
	"parapet/ghost"
)

const (
	h = api.AtHost
	d = api.AtDevice

	greatest = math.MaxUint32
	top      = math.MaxInt64
	least    = math.MinInt64
)

// seven is the document's set; ten ticks are its watch.
var seven = api.Param{Code: 7, Out: 2, In: 1, Watch: 10, Count: 100}

// netOf: these sets at both ends.
func netOf(sets ...api.Param) api.Net {
	return api.Net{Hosts: slices.Clone(sets), Devices: slices.Clone(sets), MaxSession: 9}
}

// watching: one connection, with these watches.
func watching(atHost, atDevice int) api.Net {
	n := netOf(seven)
	n.Hosts[0].Watch, n.Devices[0].Watch = atHost, atDevice
	return n
}

// one, two: connections with the watch 10.
func one() api.Net { return netOf(seven) }

func two() api.Net { return netOf(seven, api.Param{Code: 9, Out: 1, In: 8, Watch: 10, Count: 5}) }

// The facts, of connection 0.

func sent(s api.Side, session, number uint32, data ...byte) api.Fact {
	return api.Fact{Kind: api.FactSent, Side: s, Session: session, Number: number, Data: data}
}

func taken(s api.Side, session, number uint32, data ...byte) api.Fact {
	return api.Fact{Kind: api.FactTaken, Side: s, Session: session, Number: number, Data: data}
}

func session(number uint32) api.Fact {
	return api.Fact{Kind: api.FactSession, Side: d, Session: number}
}

func fresh(s api.Side) api.Fact { return api.Fact{Kind: api.FactFresh, Side: s} }

func tick(s api.Side, n uint32) api.Fact {
	return api.Fact{Kind: api.FactTick, Side: s, Number: n}
}

func ack(s api.Side) api.Fact { return api.Fact{Kind: api.FactAck, Side: s} }

func reset(s api.Side) api.Fact { return api.Fact{Kind: api.FactReset, Side: s} }

// off: an output that is fail-safe, or ought to be, with what is latched.
func off(s api.Side, code api.Errno, data ...byte) api.Fact {
	return api.Fact{Kind: api.FactOut, Side: s, Code: code, Data: data}
}

// on: one that is a process value.
func on(s api.Side, code api.Errno, data ...byte) api.Fact {
	return api.Fact{Kind: api.FactOut, Side: s, On: true, Code: code, Data: data}
}

// at: the same of another connection.
func at(conn int, f api.Fact) api.Fact {
	f.Conn = conn
	return f
}

// then: a history that goes on; the beginning stays as it is.
func then(ahead []api.Fact, behind ...api.Fact) []api.Fact {
	return append(slices.Clone(ahead), behind...)
}

func otherSide(s api.Side) api.Side { return 3 - s }

// sends: the other end of s sends (1, 1) with these bytes, in a session that is begun.
func sends(s api.Side, data ...byte) []api.Fact {
	return []api.Fact{session(1), sent(otherSide(s), 1, 1, data...)}
}

// holds: the end s has taken these bytes, and shows them.
func holds(s api.Side, data ...byte) []api.Fact {
	return then(sends(s, data...), fresh(s), taken(s, 1, 1, data...), on(s, 0, data...))
}

// verdict: what is said behind these facts, one by one, of them all at once, and by the twin.
func verdict(t *testing.T, n api.Net, facts ...api.Fact) api.Verdict {
	t.Helper()
	j, x := ghost.New(n), newTwin(n)
	if j == nil || j.Verdict() != (api.Verdict{}) {
		t.Fatalf("P18.1: New(%+v): %+v, not a judge that has seen nothing", n, j)
	}
	for i, f := range facts {
		want := x.see(f)
		if got := j.See(f); got != want {
			t.Fatalf("P18.1: See of fact %d of %+v: %+v, not %+v", i, facts, got, want)
		}
		for range 2 {
			if got := j.Verdict(); got != want {
				t.Fatalf("P18.1: Verdict behind fact %d of %+v: %+v, not %+v", i, facts, got, want)
			}
		}
	}
	if got := ghost.Check(n, facts); got != j.Verdict() {
		t.Fatalf("P18.1, R8: Check of %+v: %+v, but one by one %+v", facts, got, j.Verdict())
	}
	return j.Verdict()
}

// good: no rule is broken, nor by a beginning of it.
func good(t *testing.T, n api.Net, facts ...api.Fact) {
	t.Helper()
	if got := verdict(t, n, facts...); got != (api.Verdict{}) {
		t.Fatalf("P18.1: %+v breaks the rule %d at %d, and ought to be good", facts, got.Rule, got.At)
	}
}

// breaks: the last of the facts breaks this rule, and what is ahead of it is good; what comes behind it changes nothing.
func breaks(t *testing.T, n api.Net, rule int, facts ...api.Fact) {
	t.Helper()
	want := api.Verdict{Rule: rule, At: len(facts) - 1}
	if got := verdict(t, n, facts...); got != want {
		t.Fatalf("P18.1: %+v: %+v, not %+v", facts, got, want)
	}
	good(t, n, facts[:len(facts)-1]...)
	for _, behind := range []api.Fact{facts[len(facts)-1], {}, fresh(d), at(1, fresh(h)), off(d, 0), session(0), reset(h), at(-1, reset(d))} {
		if got := verdict(t, n, then(facts, behind, off(d, 100))...); got != want {
			t.Fatalf("P18.3: %+v, and %+v behind it: %+v, not %+v", facts, behind, got, want)
		}
	}
}

// bothSides: what holds of the one end holds of the other.
func bothSides(t *testing.T, f func(t *testing.T, s api.Side)) {
	t.Run("host", func(t *testing.T) { f(t, h) })
	t.Run("device", func(t *testing.T) { f(t, d) })
}
