package device_test

import (
	"bytes"
	"testing"

	"parapet/api"
	"parapet/cell"
	"parapet/mem"
	"parapet/param"
	"parapet/unit"
)

// twin is a device told in plain words, over a memory of its own: no valve, no
// watchdog, but what the document's section on the two ends says of them.
type twin struct {
	set   api.Param
	m     *mem.Mem
	max   uint32
	cell  *cell.Cell
	notes []api.Record
	twinLife
}

type twinLife struct {
	state   api.State
	session uint32
	number  uint32
	sent    uint32
	odd     int
	since   int
	latched api.Errno
	fresh   bool   // since the last fault
	held    bool   // by the last accepted data unit
	came    []byte // since it runs, and since the last fault and acknowledgement; or nil
	value   []byte
	hold    bool
}

func newTwin(p api.Param, m *mem.Mem, max uint32) (*twin, api.Errno) {
	c, e := cell.Open(m, max)
	if e != api.OK {
		return nil, e
	}
	w := &twin{set: p, m: m, max: max, cell: c}
	w.begin(api.Idle)
	return w, api.OK
}

func (w *twin) begin(s api.State) {
	w.twinLife = twinLife{state: s, value: make([]byte, w.set.In)}
}

func (w *twin) note(code api.Errno) {
	w.notes = append(w.notes, api.Record{At: len(w.notes) + 1, Code: code, Session: w.session, Number: w.number})
}

func (w *twin) fault(code api.Errno) {
	w.fresh, w.came = false, nil
	if w.latched == api.OK {
		w.latched = code
		w.note(code)
	}
}

func (w *twin) onward() { w.odd, w.since, w.fresh = 0, 0, w.latched != api.OK }

func (w *twin) leave(s api.State) {
	w.state, w.session, w.number, w.sent, w.odd = s, 0, 0, 0, 0
	w.held, w.came = false, nil
}

func (w *twin) request() bool { return w.state == api.Running && w.latched != api.OK && w.fresh }

func (w *twin) on() bool {
	return w.state == api.Running && w.latched == api.OK && !w.held && w.came != nil
}

func (w *twin) see() api.End {
	out := make([]byte, w.set.Out)
	if w.on() {
		out = w.came
	}
	return api.End{State: w.state, Session: w.session, Number: w.number, Sent: w.sent, Since: w.since, Latched: w.latched, Request: w.request(), On: w.on(), Out: out}
}

func (w *twin) reset(n int) api.Errno {
	if n < 0 {
		return api.ErrRange
	}
	w.begin(api.Idle)
	w.m.On()
	if n > 0 {
		w.m.Arm(n - 1)
	}
	c, e := cell.Open(w.m, w.max)
	if e != api.OK {
		w.begin(api.Down)
		return e
	}
	w.cell = c
	return api.OK
}

func (w *twin) write(value []byte, hold bool) api.Errno {
	if w.state == api.Down {
		return api.ErrCut
	}
	if len(value) != w.set.In {
		return api.ErrLength
	}
	w.value, w.hold = bytes.Clone(value), hold
	return api.OK
}

func (w *twin) tick(n int) api.Errno {
	if w.state == api.Down {
		return api.ErrCut
	}
	if n < 0 {
		return api.ErrRange
	}
	for ; n > 0 && w.since < w.set.Watch; n-- {
		if w.since++; w.since == w.set.Watch {
			w.fault(api.ErrWatchdog)
		}
	}
	return api.OK
}

func (w *twin) ack() api.Errno {
	if w.state == api.Down {
		return api.ErrCut
	}
	if !w.request() {
		return api.ErrRequest
	}
	w.latched, w.fresh, w.came = api.OK, false, nil
	return api.OK
}

// receive: the answer as a unit without its Code; its Kind is 0, if there is none.
func (w *twin) receive(b []byte) (answer api.Unit, e api.Errno) {
	if w.state == api.Down {
		return nothing, api.ErrCut
	}
	u, e := unit.Decode(b)
	if e == api.OK && u.Kind > 15 {
		e = api.ErrKind
	}
	if e == api.OK && u.Code != w.set.Code {
		e = api.ErrCode
	}
	if e == api.OK {
		answer, e = w.hear(u)
	}
	if answer.Kind != 0 {
		answer.Session = w.session
		if answer.Kind == api.DevOffer {
			answer.Data = signature(w.set)
		}
	}
	if e != api.OK && e != api.ErrCut {
		w.note(e)
	}
	return answer, e
}

func (w *twin) hear(u api.Unit) (api.Unit, api.Errno) {
	own, s := u.Session == w.session, w.state
	match, _ := param.Match(w.set, u.Data)
	greater := own && s == api.Running && u.Number > w.number
	switch {
	case u.Kind == api.HostParam && match:
		return w.wish()
	case u.Kind == api.HostParam, u.Kind == api.HostEcho && own && (s == api.Offered || s == api.Agreed) && !match:
		return w.refuse(api.ErrSignature)
	case u.Kind == api.HostEcho && own && s == api.Offered:
		w.state = api.Agreed
		w.onward()
		return api.Unit{Kind: api.DevAgreed}, api.OK
	case u.Kind == api.HostEcho && own && s == api.Agreed:
		return api.Unit{Kind: api.DevAgreed}, api.OK
	case u.Kind == api.HostStart && own && s == api.Agreed:
		w.state = api.Running
		w.onward()
		return api.Unit{Kind: api.DevStarted}, api.OK
	case u.Kind == api.HostStart && own && s == api.Running && w.number == 0:
		return api.Unit{Kind: api.DevStarted}, api.OK
	case u.Kind == api.HostData && greater && u.Number < w.set.Count && len(u.Data) == w.set.Out:
		w.number, w.held = u.Number, u.Flags >= 8
		w.onward()
		if w.latched == api.OK {
			w.came = u.Data
		}
		w.sent++
		return api.Unit{Kind: api.DevData, Number: w.sent, Flags: w.flags(), Data: w.value}, api.OK
	case u.Kind == api.HostLast && greater && u.Number == w.set.Count:
		w.number = u.Number
		w.onward()
		w.fault(api.ErrExhausted)
		w.sent, w.state = u.Number, api.Done
		w.held, w.came = false, nil
		return api.Unit{Kind: api.DevLast, Number: u.Number}, api.OK
	}
	return w.refuse(api.ErrStale)
}

func (w *twin) flags() (flags int) {
	for i, up := range []bool{!w.on(), w.request(), w.latched != api.OK, w.hold} {
		if up {
			flags += 1 << i
		}
	}
	return flags
}

// oneMoreOdd: true: it makes four.
func (w *twin) oneMoreOdd() bool {
	if w.state != api.Offered && w.state != api.Agreed && w.state != api.Running {
		return false
	}
	if w.odd++; w.odd < 4 {
		return false
	}
	if w.state == api.Running {
		w.fault(api.ErrResync)
	}
	w.leave(api.Idle)
	return true
}

func (w *twin) refuse(e api.Errno) (api.Unit, api.Errno) {
	w.oneMoreOdd()
	return api.Unit{Kind: api.DevNone}, e
}

func (w *twin) wish() (api.Unit, api.Errno) {
	if w.state != api.Idle && w.state != api.Done && !w.oneMoreOdd() {
		if w.state == api.Offered {
			return api.Unit{Kind: api.DevOffer}, api.ErrStale
		}
		return api.Unit{Kind: api.DevNone}, api.ErrStale
	}
	session, e := w.cell.Next()
	switch e {
	case api.OK:
		w.leave(api.Offered)
		w.session = session
		return api.Unit{Kind: api.DevOffer}, api.OK
	case api.ErrExhausted:
		w.fault(e)
		w.leave(api.Done)
		return api.Unit{Kind: api.DevNone}, e
	}
	w.begin(api.Down)
	return nothing, e
}

// pair is a device beside its twin: what is done to the one is done to the other.
type pair struct {
	*bench
	w *twin
}

// newPair: over memories with the same bytes.
func newPair(t *testing.T, p api.Param, b []byte, max uint32) *pair {
	m, _ := mem.Load(b)
	n, _ := mem.Load(b)
	x := &pair{bench: &bench{t: t, set: p, m: m}}
	x.make(n, max)
	return x
}

// make: a device over the memory that there is.
func (x *pair) make(n *mem.Mem, max uint32) {
	x.m.On()
	n.On()
	x.bench = over(x.t, x.set, x.m, max)
	w, e := newTwin(x.set, n, max)
	if e != api.OK {
		x.t.Fatalf("P8.1: Open: %d", e)
	}
	x.w = w
}

// same: does the device show what its twin does?
func (x *pair) same() bool {
	if !sameEnd(x.d.See(), x.w.see()) || x.m.Writes() != x.w.m.Writes() || x.m.Off() != x.w.m.Off() {
		return false
	}
	got, total := x.d.Log()
	notes := x.w.notes[max(0, len(x.w.notes)-api.MaxRecords):]
	if total != len(x.w.notes) || len(got) != len(notes) {
		return false
	}
	for i, r := range notes {
		if got[i] != r {
			return false
		}
	}
	return bytes.Equal(x.m.Bytes(), x.w.m.Bytes())
}
