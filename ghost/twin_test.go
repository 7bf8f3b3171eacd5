package ghost_test

import (
	"bytes"

	"parapet/api"
)

// twin judges by the chapter's words, too. It keeps nothing but the history: what a judge keeps it looks up there, each time anew.
type twin struct {
	net     api.Net
	history []api.Fact
	said    api.Verdict
}

func newTwin(n api.Net) *twin { return &twin{net: n} }

func (x *twin) see(f api.Fact) api.Verdict {
	if x.said.Rule != 0 {
		return x.said
	}
	if rule := x.rule(f); rule != 0 {
		x.said = api.Verdict{Rule: rule, At: len(x.history)}
	} else {
		x.history = append(x.history, f)
	}
	return x.said
}

// rule: which one the fact breaks, behind the history; 0: none.
func (x *twin) rule(f api.Fact) int {
	if f.Kind < 1 || f.Kind > 8 || f.Conn < 0 || f.Conn >= len(x.net.Hosts) || f.Conn >= len(x.net.Devices) || f.Side != 1 && f.Side != 2 {
		return 1
	}
	v := view{x.history, f.Conn, f.Side, x.net.Hosts[f.Conn].Watch}
	if f.Side == d {
		v.watch = x.net.Devices[f.Conn].Watch
	}
	switch f.Kind {
	case api.FactTaken:
		return v.ruleOfTaken(f)
	case api.FactOut:
		return v.ruleOfOut(f)
	}
	return 0
}

// view is a history, seen from one end.
type view struct {
	facts []api.Fact
	conn  int
	side  api.Side
	watch int
}

// own: is the fact this end's?
func (v view) own(i int) bool { return v.facts[i].Conn == v.conn && v.facts[i].Side == v.side }

// lastOf: where the last fact of the end's own stands that is of one of these kinds; -1: nowhere.
func (v view) lastOf(kinds ...api.FactKind) int {
	for i := len(v.facts) - 1; i >= 0; i-- {
		for _, k := range kinds {
			if v.own(i) && v.facts[i].Kind == k {
				return i
			}
		}
	}
	return -1
}

// born: where this life begins.
func (v view) born() int { return v.lastOf(api.FactReset) }

// upTo: the view as it was ahead of fact i.
func (v view) upTo(i int) view {
	v.facts = v.facts[:i]
	return v
}

// present: the device's session.
func (v view) present() uint32 {
	for i := len(v.facts) - 1; i >= 0; i-- {
		if v.facts[i].Kind == api.FactSession && v.facts[i].Conn == v.conn {
			return v.facts[i].Session
		}
	}
	return 0
}

// otherSent: has the other end sent what f tells, so that it counts?
func (v view) otherSent(f api.Fact) bool {
	for i := len(v.facts) - 1; i >= 0; i-- {
		p := v.facts[i]
		if p.Conn != v.conn {
			continue
		}
		if p.Kind == api.FactSession && p.Session == f.Session && v.side == d {
			return false
		}
		if p.Kind == api.FactSent && p.Side != v.side && p.Session == f.Session && p.Number == f.Number && bytes.Equal(p.Data, f.Data) {
			return true
		}
	}
	return false
}

func (v view) ruleOfTaken(f api.Fact) int {
	if !v.otherSent(f) || v.side == d && f.Session != v.present() {
		return 2
	}
	last := v.lastOf(api.FactTaken)
	if last < 0 || v.side == h && last < v.born() {
		return 0
	}
	p := v.facts[last]
	if p.Session > f.Session || p.Session == f.Session && p.Number >= f.Number {
		return 3
	}
	return 0
}

func (v view) ruleOfOut(f api.Fact) int {
	switch {
	case f.On && !v.isValue(f):
		return 4
	case !f.On && len(bytes.Trim(f.Data, "\x00")) > 0:
		return 5
	case f.On && (f.Code != 0 || v.isOver()):
		return 6
	case v.isOver() && f.Code == 0:
		return 7
	case v.latched() != 0 && f.Code == 0 && !v.isAcked():
		return 8
	}
	return 0
}

// isValue: is the output the last value of this life, and of this session?
func (v view) isValue(f api.Fact) bool {
	last := v.lastOf(api.FactTaken)
	if last < 0 || last < v.born() {
		return false
	}
	p := v.facts[last]
	return len(p.Data) > 0 && bytes.Equal(p.Data, f.Data) && (v.side == h || p.Session == v.present())
}

// isOver: have the ticks come to the watch?
func (v view) isOver() bool {
	if v.watch < 1 {
		return true
	}
	ticks := uint64(0)
	for i := v.lastOf(api.FactFresh, api.FactReset) + 1; i < len(v.facts); i++ {
		if v.own(i) && v.facts[i].Kind == api.FactTick {
			ticks += uint64(v.facts[i].Number)
		}
	}
	return ticks >= uint64(v.watch)
}

// latched: what the last output of this life has told.
func (v view) latched() api.Errno {
	if i := v.lastOf(api.FactOut); i > v.born() {
		return v.facts[i].Code
	}
	return 0
}

// isFresh: has something come while a fault was latched, and no fault since?
func (v view) isFresh() bool {
	i := v.lastOf(api.FactFresh)
	if i < 0 || i < v.born() || v.upTo(i).latched() == 0 {
		return false
	}
	for k := i + 1; k < len(v.facts); k++ {
		if !v.own(k) {
			continue
		}
		if p := v.facts[k]; p.Kind == api.FactOut && p.Code != v.upTo(i).latched() || p.Kind == api.FactTick && v.upTo(k+1).isOver() {
			return false
		}
	}
	return true
}

// isAcked: was an acknowledgement taken since the last output, when it counted?
func (v view) isAcked() bool {
	for i := max(v.lastOf(api.FactOut), v.born()) + 1; i < len(v.facts); i++ {
		if v.own(i) && v.facts[i].Kind == api.FactAck && v.upTo(i).isFresh() {
			return true
		}
	}
	return false
}
