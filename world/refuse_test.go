package world_test

import (
	"testing"

	"parapet/api"
)

// twoUp: two connections that are up, and frames in the bag.
func twoUp(t *testing.T) *bench {
	t.Helper()
	k := with(t, seven, sets[7])
	k.settles(0, 3)
	k.settles(1, 3)
	k.talks(0, []byte{0xaa, 0xbb}, []byte{0xcc})
	return k
}

func TestNoSuchMove(t *testing.T) {
	k := twoUp(t)
	for _, kind := range []api.MoveKind{least, -8, -1, 0, 9, 10, 17, 256 + 1, 1<<32 + 1, top} {
		for _, m := range append(everyKind(), api.Move{}, ack(9, 9), tick(0, api.AtHost, -1)) {
			m.Kind = kind
			k.refuses(m, api.ErrMove)
		}
	}
	for kind := api.MoveKind(1); kind <= 8; kind++ {
		if row, e := k.play(api.Move{Kind: kind, Side: api.AtDevice, Word: 1, Data: []byte{1}}); e != api.OK || row.Move.Kind != kind {
			t.Errorf("P17.2: a move of the kind %d: %+v, %d", kind, row, e)
		}
	}
	k.holds()
}

func TestNoSuchConnection(t *testing.T) {
	k := twoUp(t)
	for _, conn := range []int{least, -2, -1, 2, 3, 7, 8, 1 << 32, top} {
		for _, m := range everyKind() {
			m.Conn = conn
			k.refuses(m, api.ErrConn)
		}
	}
	for n := 1; n <= api.MaxConns; n++ {
		k := with(t, sets[:n]...)
		k.refuses(send(n), api.ErrConn)
		k.refuses(send(-1), api.ErrConn)
		k.plays(send(n-1), api.OK, 0)
		k.holds()
	}
}

// Kinds that use a side refuse what is none; to the others it may be anything, and it stands in their rows.
func TestNoSuchSide(t *testing.T) {
	k := twoUp(t)
	for _, s := range []api.Side{least, -1, 0, 3, 256 + 1, 1<<32 + 1, 1<<32 + 2, top} {
		for _, m := range everyKind() {
			m.Side = s
			switch m.Kind {
			case api.MoveSend:
				if row := k.plays(m, api.OK, k.w.Frames()); row.Move.Side != s {
					t.Errorf("P17.2: the row of %+v has %+v", m, row.Move)
				}
			case api.MoveCut:
				if row := k.plays(m, api.OK, nothing); row.Move.Side != s {
					t.Errorf("P17.2: the row of %+v has %+v", m, row.Move)
				}
			default:
				k.refuses(m, api.ErrSide)
			}
		}
	}
	k.holds()
}

func TestNoSuchFrame(t *testing.T) {
	k := with(t, seven, sets[1])
	for _, s := range []api.Side{api.AtHost, api.AtDevice} {
		k.refuses(give(0, s, 0), api.ErrFrame)
		k.refuses(garble(0, s, 0, 0, 1), api.ErrFrame)
		k.refuses(give(1, s, 0), api.ErrFrame)
	}
	k = twoUp(t)
	n := k.w.Frames()
	for _, s := range []api.Side{api.AtHost, api.AtDevice} {
		for _, frame := range []int{least, -1, n, n + 1, 4096, 1 << 32, top} {
			k.refuses(give(0, s, frame), api.ErrFrame)
			k.refuses(garble(1, s, frame, 0, 1), api.ErrFrame)
			k.refuses(garble(0, s, frame, -1, 0), api.ErrFrame)
		}
	}
	k.plays(give(0, api.AtHost, n-1), api.ErrStale, nothing)
	k.refuses(give(0, api.AtDevice, n), api.ErrFrame)
	k.holds()
}

// Where a burst begins and ends: the bits of each length of frame that is in the bag.
func TestNoSuchBurst(t *testing.T) {
	k := twoUp(t)
	lengths := map[int]bool{}
	for i := range k.w.Frames() {
		frame, _ := k.w.Frame(i)
		bits := 8 * len(frame)
		lengths[bits] = true
		for _, s := range []api.Side{api.AtHost, api.AtDevice} {
			for _, c := range []struct {
				at   int
				word uint32
				want api.Errno
			}{
				{0, 0, api.ErrBurst}, {5, 0, api.ErrBurst}, {-1, 0, api.ErrBurst},
				{-1, 1, api.ErrBurst}, {least, 1, api.ErrBurst}, {top, 1, api.ErrBurst}, {top, greatest, api.ErrBurst},
				{bits - 1, 1, api.OK}, {bits, 1, api.ErrBurst}, {bits - 1, 2, api.ErrBurst}, {bits - 2, 2, api.OK}, {bits - 2, 3, api.OK},
				{bits - 32, greatest, api.OK}, {bits - 31, greatest, api.ErrBurst}, {bits - 32, 1 << 31, api.OK}, {bits - 31, 1 << 31, api.ErrBurst},
				{0, 1, api.OK}, {0, greatest, api.OK},
			} {
				m := garble(0, s, i, c.at, c.word)
				if c.want != api.OK {
					k.refuses(m, c.want)
					continue
				}
				k.plays(m, api.ErrCheck, nothing)
			}
		}
	}
	if len(lengths) < 4 {
		t.Errorf("too little was tried: frames of %d lengths", len(lengths))
	}
	k.holds()
}

func TestRanges(t *testing.T) {
	for _, c := range []struct {
		kind api.MoveKind
		s    api.Side
		n    int
		want api.Errno
	}{
		{api.MoveTick, api.AtHost, least, api.ErrRange}, {api.MoveTick, api.AtHost, -1, api.ErrRange},
		{api.MoveTick, api.AtHost, 0, api.OK}, {api.MoveTick, api.AtHost, 1, api.OK}, {api.MoveTick, api.AtHost, api.MaxTicks, api.OK},
		{api.MoveTick, api.AtHost, api.MaxTicks + 1, api.ErrRange}, {api.MoveTick, api.AtHost, 1 << 32, api.ErrRange}, {api.MoveTick, api.AtHost, top, api.ErrRange},
		{api.MoveTick, api.AtDevice, least, api.ErrRange}, {api.MoveTick, api.AtDevice, -1, api.ErrRange},
		{api.MoveTick, api.AtDevice, 0, api.OK}, {api.MoveTick, api.AtDevice, 1, api.OK}, {api.MoveTick, api.AtDevice, api.MaxTicks, api.OK},
		{api.MoveTick, api.AtDevice, api.MaxTicks + 1, api.ErrRange}, {api.MoveTick, api.AtDevice, 1 << 32, api.ErrRange}, {api.MoveTick, api.AtDevice, top, api.ErrRange},
		{api.MoveReset, api.AtHost, least, api.ErrRange}, {api.MoveReset, api.AtHost, -1, api.ErrRange},
		{api.MoveReset, api.AtHost, 0, api.OK}, {api.MoveReset, api.AtHost, 1, api.ErrRange}, {api.MoveReset, api.AtHost, top, api.ErrRange},
		{api.MoveReset, api.AtDevice, least, api.ErrRange}, {api.MoveReset, api.AtDevice, -1, api.ErrRange},
		{api.MoveReset, api.AtDevice, 0, api.OK}, {api.MoveReset, api.AtDevice, 1, api.OK}, {api.MoveReset, api.AtDevice, 7, api.OK}, {api.MoveReset, api.AtDevice, top, api.OK},
		{api.MoveCut, 0, least, api.ErrRange}, {api.MoveCut, 0, -1, api.ErrRange},
		{api.MoveCut, 0, 0, api.OK}, {api.MoveCut, 0, 1, api.OK}, {api.MoveCut, 0, api.MaxTicks + 1, api.OK}, {api.MoveCut, 0, top, api.OK},
		// The others use no N.
		{api.MoveAck, api.AtHost, least, api.OK}, {api.MoveSend, 0, -1, api.OK}, {api.MoveWrite, api.AtDevice, top, api.OK}, {api.MoveDeliver, api.AtDevice, -1, api.OK},
	} {
		k := twoUp(t)
		if _, e := k.play(api.Move{Kind: c.kind, Side: c.s, N: c.n}); e != c.want {
			t.Errorf("P17.2: a move of the kind %d at %d with N %d: %d, not %d", c.kind, c.s, c.n, e, c.want)
		}
		k.holds()
	}
}

// fault is what may be wrong with a move: the field that it spoils is its own.
type fault struct {
	want  api.Errno
	spoil func(m *api.Move)
}

// faultsOf: what may be wrong with a move of this kind, in the chapter's order.
func faultsOf(m api.Move) []fault {
	list := []fault{
		{api.ErrMove, func(m *api.Move) { m.Kind += 8 }},
		{api.ErrConn, func(m *api.Move) { m.Conn = 2 }},
		{api.ErrConn, func(m *api.Move) { m.Conn = -1 }},
	}
	if m.Kind != api.MoveSend && m.Kind != api.MoveCut {
		list = append(list, fault{api.ErrSide, func(m *api.Move) { m.Side = 0 }}, fault{api.ErrSide, func(m *api.Move) { m.Side = 3 }})
	}
	switch m.Kind {
	case api.MoveDeliver:
		list = append(list, fault{api.ErrFrame, func(m *api.Move) { m.Frame = -1 }}, fault{api.ErrFrame, func(m *api.Move) { m.Frame = 99 }})
	case api.MoveGarble:
		list = append(list, fault{api.ErrFrame, func(m *api.Move) { m.Frame = -1 }}, fault{api.ErrFrame, func(m *api.Move) { m.Frame = 99 }},
			fault{api.ErrBurst, func(m *api.Move) { m.Word = 0 }}, fault{api.ErrBurst, func(m *api.Move) { m.At = -1 }}, fault{api.ErrBurst, func(m *api.Move) { m.At = 1000 }})
	case api.MoveTick:
		list = append(list, fault{api.ErrRange, func(m *api.Move) { m.N = -1 }}, fault{api.ErrRange, func(m *api.Move) { m.N = api.MaxTicks + 1 }})
	case api.MoveReset, api.MoveCut:
		list = append(list, fault{api.ErrRange, func(m *api.Move) { m.N = -1 }})
	}
	if m.Kind == api.MoveReset && m.Side == api.AtHost {
		list = append(list, fault{api.ErrRange, func(m *api.Move) { m.N = 1 }})
	}
	return list
}

// Each two faults of a move at once, whichever came in first: the chapter's first is told, and nothing changes.
func TestWhichErrorOfAMove(t *testing.T) {
	k := twoUp(t)
	before := snapshot(k.w)
	tried := 0
	for _, m := range everyKind() {
		list := faultsOf(m)
		for i, a := range list {
			for _, b := range list[i:] {
				one, two := m, m
				a.spoil(&one)
				b.spoil(&one)
				k.refuses(one, a.want)
				b.spoil(&two)
				a.spoil(&two)
				k.refuses(two, a.want)
				tried++
			}
		}
	}
	if tried < 150 {
		t.Errorf("too little was tried: %d pairs", tried)
	}
	if got := snapshot(k.w); got != before {
		t.Errorf("R4: moves that were refused have changed %s to %s", before, got)
	}
	k.holds()
}

// A move that is refused is not counted, adds no facts, changes nothing: what comes behind it is as without it.
func TestRefusedChangesNothing(t *testing.T) {
	with, without := twoUp(t), twoUp(t)
	for i, m := range append(everyKind(), send(1), give(1, api.AtDevice, 3), tick(1, api.AtHost, 2)) {
		for _, f := range faultsOf(m) {
			bad := m
			f.spoil(&bad)
			before := snapshot(with.w)
			with.refuses(bad, f.want)
			if got := snapshot(with.w); got != before {
				t.Fatalf("R4: Play(%+v) was refused, and has changed %s to %s", bad, before, got)
			}
		}
		a, _ := with.play(m)
		b, _ := without.play(m)
		if !sameRow(a, b) {
			t.Fatalf("R4: move %d, behind refused ones: %+v, without: %+v", i, a, b)
		}
	}
	if a, b := snapshot(with.w), snapshot(without.w); a != b {
		t.Errorf("R4: with refused moves: %s, without: %s", a, b)
	}
	with.holds()
	without.holds()
}
