package ghost

import "parapet/api"

// The rules that a fact may break, numbered as the chapter numbers them.
const (
	unbroken       = iota
	noSuchFact     // no such kind, connection or side
	takenUnsent    // taken, and not sent by the other end, or not in the present session
	takenNotAbove  // taken behind one that is as great or greater
	onWithOther    // on with something else than the value
	offNotSafe     // off with a byte that isn't 0
	onWithFault    // on in spite of a fault
	watchUntold    // the watch is over, and no fault is told
	latchForgotten // a fault is told no more, and was not acknowledged
)

// ruleBrokenBy is the first rule that a fact breaks. It changes nothing.
func (j *Judge) ruleBrokenBy(f api.Fact) int {
	if !isKind(f.Kind) || f.Conn < 0 || f.Conn >= len(j.conns) || !isSide(f.Side) {
		return noSuchFact
	}
	switch f.Kind {
	case api.FactTaken:
		return j.ruleBrokenByTaken(f)
	case api.FactOut:
		return j.conns[f.Conn].ruleBrokenByOut(f)
	}
	return unbroken
}

func isKind(k api.FactKind) bool { return k >= api.FactSent && k <= api.FactOut }

func isSide(s api.Side) bool { return s == api.AtHost || s == api.AtDevice }

func (j *Judge) ruleBrokenByTaken(f api.Fact) int {
	c := &j.conns[f.Conn]
	e := c.at(f.Side)
	switch {
	case !j.wasSent(otherThan(f.Side), f), f.Side == api.AtDevice && f.Session != c.session:
		return takenUnsent
	case e.took && !placeOf(f).above(e.last):
		return takenNotAbove
	}
	return unbroken
}

func otherThan(s api.Side) api.Side {
	if s == api.AtHost {
		return api.AtDevice
	}
	return api.AtHost
}

func (c *conn) ruleBrokenByOut(f api.Fact) int {
	e := c.at(f.Side)
	told := f.Code != api.OK
	switch {
	case f.On && !c.mayShow(f):
		return onWithOther
	case !f.On && !failSafe(f.Data):
		return offNotSafe
	case f.On && (told || e.over()):
		return onWithFault
	case e.over() && !told:
		return watchUntold
	case e.latched != api.OK && !told && !e.acked:
		return latchForgotten
	}
	return unbroken
}

// mayShow: is that the value which the end took last, and is it still of the present session?
func (c *conn) mayShow(f api.Fact) bool {
	e := c.at(f.Side)
	if e.value == "" || string(f.Data) != e.value {
		return false
	}
	return f.Side == api.AtHost || e.last.session == c.session
}

func failSafe(data []byte) bool {
	for _, b := range data {
		if b != 0 {
			return false
		}
	}
	return true
}
