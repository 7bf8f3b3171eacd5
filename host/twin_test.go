package host_test

import (
	"bytes"
	"testing"

	"parapet/api"
	"parapet/unit"
)

// twin is a host told in plain words: no valve, no watchdog, but what the
// document's section on the two ends says of them.
type twin struct {
	set   api.Param
	notes []api.Record
	twinLife
}

type twinLife struct {
	state   api.State
	session uint32
	number  uint32
	sent    uint32
	vain    int // sendings since something fresh came, while there was a session; -1: none
	since   int
	latched api.Errno
	fresh   bool   // since the last fault
	held    bool   // by the last accepted data unit
	came    []byte // since it runs, and since the last fault and acknowledgement; or nil
	value   []byte
	hold    bool
}

func newTwin(p api.Param) *twin {
	w := &twin{set: p}
	w.reset()
	return w
}

func (w *twin) reset() api.Errno {
	w.twinLife = twinLife{state: api.Idle, vain: -1, value: make([]byte, w.set.Out)}
	return api.OK
}

func (w *twin) note(code api.Errno) {
	w.notes = append(w.notes, api.Record{At: len(w.notes) + 1, Code: code, Session: w.session, Number: w.number})
}

func (w *twin) fault(code api.Errno) {
	w.fresh, w.came = false, nil
	if w.latched == api.OK {
		w.latched = code
		w.note(code)
	}
}

// stop: it runs no more.
func (w *twin) stop(s api.State) { w.state, w.held, w.came = s, false, nil }

func (w *twin) request() bool { return w.state == api.Running && w.latched != api.OK && w.fresh }

func (w *twin) on() bool {
	return w.state == api.Running && w.latched == api.OK && !w.held && w.came != nil
}

func (w *twin) see() api.End {
	out := make([]byte, w.set.In)
	if w.on() {
		out = w.came
	}
	return api.End{State: w.state, Session: w.session, Number: w.number, Sent: w.sent, Since: w.since, Latched: w.latched, Request: w.request(), On: w.on(), Out: out}
}

func (w *twin) write(value []byte, hold bool) api.Errno {
	if len(value) != w.set.Out {
		return api.ErrLength
	}
	w.value, w.hold = bytes.Clone(value), hold
	return api.OK
}

func (w *twin) tick(n int) api.Errno {
	if n < 0 {
		return api.ErrRange
	}
	for ; n > 0 && w.since < w.set.Watch; n-- {
		if w.since++; w.since == w.set.Watch {
			w.fault(api.ErrWatchdog)
		}
	}
	return api.OK
}

func (w *twin) ack() api.Errno {
	if !w.request() {
		return api.ErrRequest
	}
	w.latched, w.fresh, w.came = api.OK, false, nil
	return api.OK
}

func (w *twin) flags() (flags int) {
	for i, up := range []bool{!w.on(), w.request(), w.latched != api.OK, w.hold} {
		if up {
			flags += 1 << i
		}
	}
	return flags
}

// send: the unit without its Code.
func (w *twin) send() (api.Unit, api.Errno) {
	if w.state == api.Done {
		return api.Unit{}, api.ErrDone
	}
	if w.state != api.Idle {
		// The first sending behind something fresh has missed nothing.
		if w.vain++; w.vain == 4 {
			if w.state == api.Running {
				w.fault(api.ErrResync)
			}
			w.stop(api.Idle)
			w.number, w.sent, w.vain = 0, 0, -1
		}
	}
	switch w.state {
	case api.Idle:
		return wish(w.set), api.OK
	case api.Offered:
		return echo(w.set, w.session), api.OK
	case api.Agreed:
		return start(w.session), api.OK
	}
	w.sent++
	if w.sent < w.set.Count {
		return data(w.session, w.sent, w.flags(), w.value...), api.OK
	}
	w.fault(api.ErrExhausted)
	w.stop(api.Done)
	return last(w.session, w.sent), api.OK
}

func (w *twin) receive(b []byte) api.Errno {
	u, e := unit.Decode(b)
	if e == api.OK && u.Kind < 16 {
		e = api.ErrKind
	}
	if e == api.OK && u.Code != w.set.Code {
		e = api.ErrCode
	}
	if e == api.OK {
		e = w.hear(u)
	}
	if e != api.OK {
		w.note(e)
	}
	return e
}

func (w *twin) hear(u api.Unit) api.Errno {
	own, s := u.Session == w.session, w.state
	greater := own && s == api.Running && u.Number > w.number
	switch {
	case s == api.Idle && u.Kind == api.DevOffer && u.Session > w.session:
		if !bytes.Equal(u.Data, signature(w.set)) {
			return api.ErrSignature
		}
		w.session, w.state = u.Session, api.Offered
		w.onward()
	case s == api.Offered && own && u.Kind == api.DevAgreed:
		w.state = api.Agreed
		w.onward()
	case s == api.Agreed && own && u.Kind == api.DevStarted:
		w.state = api.Running
		w.onward()
	case greater && u.Kind == api.DevData && u.Number < w.set.Count && len(u.Data) == w.set.In:
		w.number, w.held = u.Number, u.Flags >= 8
		w.onward()
		if w.latched == api.OK {
			w.came = u.Data
		}
	case greater && u.Kind == api.DevLast && u.Number == w.set.Count:
		w.number = u.Number
		w.onward()
		w.fault(api.ErrExhausted)
		w.stop(api.Done)
	default:
		return api.ErrStale
	}
	return api.OK
}

func (w *twin) onward() { w.vain, w.since, w.fresh = -1, 0, w.latched != api.OK }

// pair is a host beside its twin: what is done to the one is done to the other.
type pair struct {
	*bench
	w *twin
}

func newPair(t *testing.T, p api.Param) *pair { return &pair{bench: fresh(t, p), w: newTwin(p)} }

// same: does the host show what its twin does?
func (x *pair) same() bool {
	if !sameEnd(x.h.See(), x.w.see()) {
		return false
	}
	got, total := x.h.Log()
	notes := x.w.notes[max(0, len(x.w.notes)-api.MaxRecords):]
	if total != len(x.w.notes) || len(got) != len(notes) {
		return false
	}
	for i, r := range notes {
		if got[i] != r {
			return false
		}
	}
	return true
}
