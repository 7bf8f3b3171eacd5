package fair_test

import (
	"slices"

	"parapet/api"
	"parapet/world"
)

// hand is a world that is moved by the chapter's words; it goes by what the world shows, and asks nothing of package fair.
type hand struct{ *world.World }

// sends: a move, and whether a frame more is in the bag behind it.
func (x hand) sends(m api.Move) (frame int, code, e api.Errno) {
	frame = x.Frames()
	row, e := x.Play(m)
	if x.Frames() == frame {
		frame = -1
	}
	return frame, row.Code, e
}

func (x hand) exchange(k int) (bool, api.Errno) {
	frame, _, e := x.sends(send(k))
	if e != api.OK {
		return false, e
	}
	if frame < 0 {
		return false, api.OK
	}
	frame, _, e = x.sends(give(k, d, frame))
	if e != api.OK {
		return false, e
	}
	if frame < 0 {
		return false, api.OK
	}
	_, code, e := x.sends(give(k, h, frame))
	if e != api.OK {
		return false, e
	}
	if x.shown(k, h).Request {
		if _, e = x.Play(ack(k, h)); e != api.OK {
			return false, e
		}
	}
	if x.shown(k, d).Request {
		if _, e = x.Play(ack(k, d)); e != api.OK {
			return false, e
		}
	}
	return code == api.OK, api.OK
}

func (x hand) shown(k int, s api.Side) api.End {
	end, _ := x.See(k, s)
	return end
}

func (x hand) isUp(k int) bool {
	a, b := x.shown(k, h), x.shown(k, d)
	if a.State != api.Running || b.State != api.Running {
		return false
	}
	return a.Latched == 0 && b.Latched == 0 && a.Session == b.Session
}

func (x hand) settle(k, most int) (int, bool, api.Errno) {
	if conns := len(x.Net().Hosts); k < 0 || k >= conns {
		return 0, false, api.ErrConn
	}
	for n := 0; ; n++ {
		if up := x.isUp(k); up || n >= most {
			return n, up, api.OK
		}
		if _, e := x.exchange(k); e != api.OK {
			return n, false, e
		}
	}
}

func (x hand) talk(k int, down, up []byte) (bool, api.Errno) {
	for _, m := range []api.Move{write(k, h, down...), write(k, d, up...)} {
		if row, e := x.Play(m); e != api.OK || row.Code != api.OK {
			return false, e
		}
	}
	fresh, e := x.exchange(k)
	a, b := x.shown(k, h), x.shown(k, d)
	return e == api.OK && fresh && a.On && b.On && slices.Equal(a.Out, up) && slices.Equal(b.Out, down), e
}
