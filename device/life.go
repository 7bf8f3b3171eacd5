package device

import (
	"parapet/api"
	"parapet/passive"
	"parapet/watch"
)

// life is what a device keeps from one reset to the next.
type life struct {
	dog   *watch.Dog
	valve *passive.Valve
	state api.State
	// 0: none.
	session uint32
	// Of the last unit accepted in the session.
	number uint32
	// How many data units were sent in the session: the number of the last one.
	sent uint32
	// Units that brought nothing since the last one that brought it on.
	odd int
	// The application's.
	value []byte
	hold  bool
}

// newLife is the beginning of a life with this set, which New has found lawful.
func newLife(p api.Param) life {
	dog, _ := watch.New(p.Watch)
	valve, _ := passive.New(p.Out)
	return life{dog: dog, valve: valve, state: api.Idle, value: make([]byte, p.In)}
}

// bringOn is what every fresh unit does.
func (l *life) bringOn() {
	l.odd = 0
	l.dog.Feed()
	l.valve.Fresh()
}

// leave ends the session; what is latched stays, and so does the watchdog's count.
func (l *life) leave(s api.State) {
	l.valve.Run(false)
	l.session, l.number, l.sent, l.odd = 0, 0, 0, 0
	l.state = s
}

// inSession: is there a session that odd units may end?
func (l *life) inSession() bool {
	return l.state == api.Offered || l.state == api.Agreed || l.state == api.Running
}

// flags are those of a data unit that is sent now.
func (l *life) flags() int {
	flags := 0
	if _, on := l.valve.Output(); !on {
		flags |= api.FlagPassive
	}
	if l.valve.Request() {
		flags |= api.FlagRequest
	}
	if l.valve.Latched() != api.OK {
		flags |= api.FlagLatched
	}
	if l.hold {
		flags |= api.FlagHold
	}
	return flags
}
