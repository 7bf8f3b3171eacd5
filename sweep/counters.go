package sweep

import (
	"sync/atomic"

	"parapet/api"
	"parapet/ghost"
)

// counters are a tally to which all workers add.
type counters struct {
	runs, bad, taken, latched, on atomic.Int64
}

// countHistory adds what a world's facts come to.
func (c *counters) countHistory(n api.Net, facts []api.Fact) {
	if ghost.Check(n, facts) != (api.Verdict{}) {
		c.bad.Add(1)
	}
	for _, f := range facts {
		if f.Kind == api.FactTaken {
			c.taken.Add(1)
		}
	}
}

// countEnd adds how an end looks.
func (c *counters) countEnd(end api.End) {
	if end.Latched != api.OK {
		c.latched.Add(1)
	}
	if end.On {
		c.on.Add(1)
	}
}

// tally: what was counted so far.
func (c *counters) tally() api.Tally {
	return api.Tally{
		Runs:    int(c.runs.Load()),
		Bad:     int(c.bad.Load()),
		Taken:   int(c.taken.Load()),
		Latched: int(c.latched.Load()),
		On:      int(c.on.Load()),
	}
}
