package ghost_test

import (
	"testing"

	"parapet/api"
	"parapet/ghost"
)

// alphabet: facts of all kinds, at both ends of a connection.
func alphabet() []api.Fact {
	return []api.Fact{
		session(1), session(2),
		sent(h, 1, 1, 5), sent(h, 2, 1, 6), sent(d, 1, 1, 5), sent(d, 1, 2, 6),
		taken(d, 1, 1, 5), taken(d, 2, 1, 6), taken(h, 1, 1, 5), taken(h, 1, 2, 6),
		fresh(h), fresh(d), tick(h, 6), tick(d, 6), ack(h), ack(d), reset(h), reset(d),
		off(h, 0, 0), off(d, 0, 0), off(h, 100), off(d, 100, 0, 0), on(h, 0, 5), on(d, 0, 5), on(d, 0, 6),
	}
}

// numbers: what a device takes, and shows of it.
func numbers() []api.Fact {
	return []api.Fact{
		session(1), session(2), sent(h, 1, 1, 5), sent(h, 1, 2, 6), sent(h, 2, 1, 6), sent(d, 1, 1, 5),
		taken(d, 1, 1, 5), taken(d, 1, 2, 6), taken(d, 2, 1, 6), reset(d), reset(h), on(d, 0, 5), on(d, 0, 6),
	}
}

// latches: what an end's faults go through.
func latches(s api.Side) []api.Fact {
	return []api.Fact{fresh(s), tick(s, 1), tick(s, 9), ack(s), reset(s), off(s, 0), off(s, 100), off(s, 131), on(s, 0, 5)}
}

// counts: how often each rule was broken, and none.
type counts [9]int

// every history of at most so many facts of an alphabet behind a beginning, up to the first that breaks a rule.
func every(t *testing.T, n api.Net, ahead, alphabet []api.Fact, depth int, c *counts) {
	t.Helper()
	for _, f := range alphabet {
		facts := then(ahead, f)
		said := verdict(t, n, facts...)
		c[said.Rule]++
		if said.Rule == 0 && depth > 1 {
			every(t, n, facts, alphabet, depth-1, c)
		}
	}
}

func TestEveryShortHistory(t *testing.T) {
	var c counts
	every(t, one(), nil, alphabet(), 3, &c)
	every(t, one(), holds(d, 5), alphabet(), 2, &c)
	every(t, one(), holds(h, 5), alphabet(), 2, &c)
	every(t, one(), nil, numbers(), 4, &c)
	every(t, one(), []api.Fact{session(1), sent(h, 1, 1, 5)}, numbers(), 5, &c)
	every(t, one(), holds(h, 5), latches(h), 5, &c)
	every(t, one(), holds(d, 5), latches(d), 5, &c)
	every(t, one(), then(holds(d, 5), off(d, 100)), latches(d), 5, &c)
	every(t, watching(2, 1), then(holds(h, 5), off(h, 100)), latches(h), 5, &c)
	every(t, watching(0, 0), then(holds(d, 5)[:4], off(d, 100)), latches(d), 5, &c)
	want := counts{50000, 0, 10000, 500, 3000, 0, 500, 1000, 1000}
	for rule, n := range want {
		if c[rule] < n {
			t.Errorf("too little was tried: rule %d %d times", rule, c[rule])
		}
	}
}

// chance gives numbers that look like chance, the same ones at each run.
type chance struct{ at uint64 }

func (c *chance) below(n int) int {
	c.at = c.at*6364136223846793005 + 1442695040888963407
	return int(c.at>>33) % n
}

func (c *chance) bytes(n int) []byte {
	b := make([]byte, n)
	for i := range b {
		b[i] = byte(c.below(256))
	}
	return b
}

func (c *chance) side() api.Side { return api.Side(1 + c.below(2)) }

// fact: any one, out of small ranges, so that facts meet; now and then one that is none.
func (c *chance) fact() api.Fact {
	f := api.Fact{Kind: api.FactKind(1 + c.below(8)), Conn: c.below(2), Side: c.side(), Session: uint32(c.below(3)), Number: uint32(c.below(4))}
	f.Data = make([]byte, c.below(3))
	if len(f.Data) > 0 && c.below(2) == 0 {
		f.Data[0] = byte(c.below(3))
	}
	f.On = c.below(3) == 0
	f.Code = []api.Errno{0, 0, 100, 131}[c.below(4)]
	switch c.below(400) {
	case 0:
		f.Kind = api.FactKind(c.below(12) - 1)
	case 1:
		f.Conn = c.below(5) - 1
	case 2:
		f.Side = api.Side(c.below(5) - 1)
	}
	return f
}

// likely: a fact that goes with those ahead of it: what was sent is taken, what was taken is shown.
func (c *chance) likely(history []api.Fact) api.Fact {
	f := c.fact()
	if len(history) == 0 || c.below(2) == 0 {
		return f
	}
	switch p := history[len(history)-1-c.below(min(len(history), 12))]; p.Kind {
	case api.FactSent:
		f = p
		f.Kind, f.Side = api.FactTaken, otherSide(p.Side)
	case api.FactTaken:
		f = p
		f.Kind, f.On = api.FactOut, true
		f.Code = []api.Errno{0, 0, 0, 100}[c.below(4)]
	case api.FactSession:
		f = p
		f.Kind, f.Side, f.Number, f.Data = api.FactSent, c.side(), uint32(c.below(5)), []byte{byte(1 + c.below(3))}
	}
	return f
}

// Long histories by chance, each up to the first fact that breaks a rule that is wanted; those that break another one are left out.
func TestLongHistories(t *testing.T) {
	var c counts
	var kinds [9]int
	longest, shown := 0, 0
	for seed := range 3000 {
		by := chance{uint64(seed)}
		n := two()
		n.Hosts[0].Watch, n.Devices[0].Watch, n.Hosts[1].Watch, n.Devices[1].Watch = 1+by.below(6), 5+by.below(6), 20-by.below(24), 12
		x, j := newTwin(n), ghost.New(n)
		for range 400 {
			f := by.likely(x.history)
			if rule := x.rule(f); rule != 0 && (rule != seed%9 || by.below(3) > 0) {
				continue
			}
			want := x.see(f)
			if got := j.See(f); got != want || j.Verdict() != want {
				t.Fatalf("P18.1: %+v behind %+v: %+v, not %+v", f, x.history, got, want)
			}
			if want.Rule != 0 {
				break
			}
			kinds[f.Kind]++
			if f.On {
				shown++
			}
		}
		if got := ghost.Check(n, x.history); got != (api.Verdict{}) {
			t.Fatalf("P18.3: a beginning of a history: %+v", got)
		}
		c[j.Verdict().Rule]++
		longest = max(longest, len(x.history))
	}
	for rule, n := range c {
		if n < 25 {
			t.Errorf("too little was tried: rule %d %d times", rule, n)
		}
	}
	for kind, n := range kinds[1:] {
		if n < 1000 {
			t.Errorf("too little was tried: kind %d %d times", kind+1, n)
		}
	}
	if longest < 150 || shown < 500 {
		t.Errorf("too little was tried: no history of more than %d facts, %d outputs on", longest, shown)
	}
}

// What the one connection's facts come to hangs on them alone: two histories, mingled, are good just if both are.
func TestConnectionsAreApart(t *testing.T) {
	mingled, bad := 0, 0
	for seed := range 3000 {
		by := chance{uint64(seed) + 7777}
		var own [2][]api.Fact
		var both []api.Fact
		for range 12 {
			f := by.likely(both)
			if f.Conn != 0 && f.Conn != 1 {
				continue
			}
			x := newTwin(one())
			for _, p := range own[f.Conn] {
				x.see(p)
			}
			if x.rule(at(0, f)) != 0 && by.below(8) > 0 {
				continue
			}
			own[f.Conn] = append(own[f.Conn], at(0, f))
			both = append(both, f)
		}
		first, second := ghost.Check(one(), own[0]), ghost.Check(one(), own[1])
		got := ghost.Check(two(), both)
		if (got.Rule == 0) != (first.Rule == 0 && second.Rule == 0) {
			t.Fatalf("P18.1: %+v: %+v, though apart %+v, %+v", both, got, first, second)
		}
		if got.Rule != 0 {
			bad++
			if got.Rule != first.Rule && got.Rule != second.Rule {
				t.Fatalf("P18.1: %+v: %+v, though apart %+v, %+v", both, got, first, second)
			}
		}
		mingled++
	}
	if mingled < 3000 || bad < 300 || bad > 2700 {
		t.Errorf("too little was tried: %d histories, %d bad ones", mingled, bad)
	}
}
