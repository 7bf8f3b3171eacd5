package ghost

import "parapet/api"

// conn is what is known of a connection.
type conn struct {
	host, dev end
	// The device's present one.
	session uint32
}

// end is what is known of one end.
type end struct {
	watch int
	// The last one taken, if any was.
	took bool
	last place
	life
}

// life is what a reset ends at either end.
type life struct {
	// That of the last one taken, and so of its session; none is as good as one without a byte.
	value string
	// Since something fresh came; never more than the watch.
	ticks   int
	latched api.Errno
	// Something fresh has come since the last fault.
	fresh bool
	// An acknowledgement was taken since the output was told.
	acked bool
}

// place is where a data unit stands in a connection's history.
type place struct{ session, number uint32 }

func placeOf(f api.Fact) place { return place{session: f.Session, number: f.Number} }

func (p place) above(q place) bool {
	return p.session > q.session || p.session == q.session && p.number > q.number
}

func newConn(atHost, atDevice api.Param) conn {
	return conn{host: end{watch: atHost.Watch}, dev: end{watch: atDevice.Watch}}
}

// at is the connection's end of that side.
func (c *conn) at(s api.Side) *end {
	if s == api.AtHost {
		return &c.host
	}
	return &c.dev
}

// reset begins a new life of one end.
func (c *conn) reset(s api.Side) {
	e := c.at(s)
	e.life = life{}
	// A device's sessions rise over its lives, and what it takes with them.
	if s == api.AtHost {
		e.took, e.last = false, place{}
	}
}

func (e *end) take(f api.Fact) {
	e.took, e.last, e.value = true, placeOf(f), string(f.Data)
}

func (e *end) refresh() {
	e.ticks = 0
	e.fresh = e.latched != api.OK
}

func (e *end) tick(n int) {
	// Not by a sum, which might wrap: a watch may be as great as an int is.
	if n < e.watch-e.ticks {
		e.ticks += n
		return
	}
	e.ticks = e.watch
	e.fresh = false
}

// over: have the ticks come to the watch?
func (e *end) over() bool { return e.ticks >= e.watch }

func (e *end) acknowledge() {
	// One ahead of something fresh counts for nothing, but takes none back.
	e.acked = e.acked || e.fresh
}

// show: an output was told, with what is latched behind it.
func (e *end) show(code api.Errno) {
	if code != e.latched {
		e.fresh = false
	}
	e.latched = code
	e.acked = false
}
