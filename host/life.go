package host

import (
	"parapet/api"
	"parapet/passive"
	"parapet/watch"
)

// life is what a host keeps from one reset to the next.
type life struct {
	dog   *watch.Dog
	valve *passive.Valve
	state api.State
	// The greatest one accepted, also where it was given up: so no old offer is
	// taken. 0: none.
	session uint32
	// Of the last data unit accepted in the session.
	number uint32
	// How many data units, and last ones, were sent in the session: the number
	// of the last one.
	sent uint32
	// It has sent since something fresh came.
	waits bool
	// Sendings that brought nothing since the last fresh unit.
	missed int
	// The application's.
	value []byte
	hold  bool
}

// newLife is the beginning of a life with this set, which New has found lawful.
func newLife(p api.Param) life {
	dog, _ := watch.New(p.Watch)
	valve, _ := passive.New(p.In)
	return life{dog: dog, valve: valve, state: api.Idle, value: make([]byte, p.Out)}
}

// bringOn is what every unit that is accepted does.
func (l *life) bringOn() {
	l.waits, l.missed = false, 0
	l.dog.Feed()
	l.valve.Fresh()
}

// leave: no process data flows any more.
func (l *life) leave(s api.State) {
	l.valve.Run(false)
	l.state = s
}

// giveUp ends the session; what is latched stays, and so does the session's number.
func (l *life) giveUp() {
	l.leave(api.Idle)
	l.number, l.sent, l.waits, l.missed = 0, 0, false, 0
}

// flags are those of a data unit that is sent now.
func (l *life) flags() int {
	flags := 0
	if _, on := l.valve.Output(); !on {
		flags |= api.FlagPassive
	}
	if l.valve.Request() {
		flags |= api.FlagRequest
	}
	if l.valve.Latched() != api.OK {
		flags |= api.FlagLatched
	}
	if l.hold {
		flags |= api.FlagHold
	}
	return flags
}
