package world_test

import (
	"bytes"
	"slices"
	"testing"

	"parapet/api"
	"parapet/param"
	"parapet/world"
)

// The chapter's examples.
func TestExamples(t *testing.T) {
	k := with(t, seven)
	k.adds(send(0), api.OK, 0, off(api.AtHost, api.OK, 0), off(api.AtDevice, api.OK, 0, 0))
	row := k.adds(give(0, api.AtDevice, 0), api.OK, 1, sessionFact(1), off(api.AtHost, api.OK, 0), off(api.AtDevice, api.OK, 0, 0))
	if row.Dev.State != api.Offered || row.Dev.Session != 1 {
		t.Errorf("P17.2: behind the wish the device is %+v", row.Dev)
	}
	row = k.adds(give(0, api.AtHost, 1), api.OK, nothing, plainFact(api.FactFresh, api.AtHost), off(api.AtHost, api.OK, 0), off(api.AtDevice, api.OK, 0, 0))
	if row.Host.State != api.Offered || row.Host.Session != 1 {
		t.Errorf("P17.2: behind the offer the host is %+v", row.Host)
	}
	k.adds(garble(0, api.AtDevice, 0, 3, 1), api.ErrCheck, nothing, off(api.AtHost, api.OK, 0), off(api.AtDevice, api.OK, 0, 0))
	k.plays(cut(0, 0), api.OK, nothing)
	for i := range 3 {
		k.adds(give(0, api.AtDevice, 0), api.ErrStale, 2+i, off(api.AtHost, api.OK, 0), off(api.AtDevice, api.OK, 0, 0))
	}
	row = k.adds(give(0, api.AtDevice, 0), api.ErrCut, nothing, plainFact(api.FactReset, api.AtDevice), off(api.AtHost, api.OK, 0), off(api.AtDevice, api.OK, 0, 0))
	if row.Dev.State != api.Down {
		t.Errorf("P17.2: behind the cut the device is %+v", row.Dev)
	}
	k.holds()
}

// unlawful: sets that param.Check refuses, with the code of the chapter's set.
func unlawful() []api.Param {
	return []api.Param{
		{Code: 7, Out: 0, In: 1, Watch: 10, Count: 100},
		{Code: 7, Out: 9, In: 1, Watch: 10, Count: 100},
		{Code: 7, Out: 2, In: -1, Watch: 10, Count: 100},
		{Code: 7, Out: 2, In: 1, Watch: 0, Count: 100},
		{Code: 7, Out: 2, In: 1, Watch: api.MaxTicks + 1, Count: 100},
		{Code: 7, Out: 2, In: 1, Watch: 10, Count: 1},
		{Code: 0, Out: 2, In: 1, Watch: 10, Count: 100},
		{},
	}
}

// refused: Check and New answer that of a net, and New no world.
func refused(t *testing.T, n api.Net, want api.Errno) {
	t.Helper()
	if e := world.Check(n); e != want {
		t.Errorf("P17.1: Check(%+v): %d, not %d", n, e, want)
	}
	w, e := world.New(n)
	if e != want || (w == nil) != (want != api.OK) {
		t.Errorf("P17.1, R3: New(%+v): %v, %d, not %d", n, w, e, want)
	}
}

func TestHowMany(t *testing.T) {
	for hosts := range 12 {
		for devices := range 12 {
			many := append(slices.Clone(sets[:]), api.Param{Code: 11, Out: 1, In: 1, Watch: 1, Count: 2}, api.Param{Code: 12, Out: 1, In: 1, Watch: 1, Count: 2}, api.Param{Code: 13, Out: 1, In: 1, Watch: 1, Count: 2})
			n := api.Net{Hosts: many[:hosts], Devices: many[:devices], MaxSession: 9}
			want := api.ErrRange
			if hosts == devices && hosts >= 1 && hosts <= 8 {
				want = api.OK
			}
			refused(t, n, want)
		}
	}
	refused(t, api.Net{}, api.ErrRange)
	refused(t, api.Net{Hosts: []api.Param{}, Devices: []api.Param{}, MaxSession: 9}, api.ErrRange)
	// Many more than nine, each with a code of its own.
	var many []api.Param
	for code := range uint32(1000) {
		many = append(many, api.Param{Code: code + 1, Out: 1, In: 1, Watch: 1, Count: 2})
	}
	refused(t, netOf(9, many...), api.ErrRange)
}

func TestMaxSession(t *testing.T) {
	for sessions, want := range map[uint32]api.Errno{0: api.ErrRange, 1: api.OK, 2: api.OK, 1 << 31: api.OK, greatest: api.OK} {
		refused(t, netOf(sessions, seven), want)
		refused(t, netOf(sessions, sets[:]...), want)
	}
}

func TestUnlawfulSets(t *testing.T) {
	for _, p := range unlawful() {
		if param.Check(p) != api.ErrParam {
			t.Fatalf("P9.1: %+v is lawful", p)
		}
		for n := 1; n <= api.MaxConns; n++ {
			for at := range n {
				atHost, atDevice, atBoth := netOf(9, sets[:n]...), netOf(9, sets[:n]...), netOf(9, sets[:n]...)
				atHost.Hosts[at] = p
				atDevice.Devices[at] = p
				atBoth.Hosts[at], atBoth.Devices[at] = p, p
				refused(t, atHost, api.ErrParam)
				refused(t, atDevice, api.ErrParam)
				refused(t, atBoth, api.ErrParam)
			}
		}
	}
}

// Two with one code, at every two places, among hosts, among devices, among both.
func TestTwice(t *testing.T) {
	for n := 2; n <= api.MaxConns; n++ {
		for b := range n {
			for a := range b {
				atHost, atDevice, atBoth := netOf(9, sets[:n]...), netOf(9, sets[:n]...), netOf(9, sets[:n]...)
				atHost.Hosts[a].Code = atHost.Hosts[b].Code
				atDevice.Devices[b].Code = atDevice.Devices[a].Code
				atBoth.Hosts[a], atBoth.Devices[a] = atBoth.Hosts[b], atBoth.Devices[b]
				refused(t, atHost, api.ErrTwice)
				refused(t, atDevice, api.ErrTwice)
				refused(t, atBoth, api.ErrTwice)
			}
		}
	}
	// One code of sets that are unlike in all else.
	refused(t, netOf(9, seven, api.Param{Code: 7, Out: 8, In: 8, Watch: 1, Count: 2}), api.ErrTwice)
}

// Sets that are alike but for the code are no doubles, nor are a host and a device of two connections.
func TestUnlikeEnds(t *testing.T) {
	eight := seven
	eight.Code = 8
	refused(t, netOf(9, seven, eight), api.OK)
	refused(t, api.Net{Hosts: []api.Param{seven}, Devices: []api.Param{eight}, MaxSession: 1}, api.OK)
	refused(t, api.Net{Hosts: []api.Param{seven, eight}, Devices: []api.Param{eight, seven}, MaxSession: 1}, api.OK)
	refused(t, api.Net{Hosts: []api.Param{seven}, Devices: []api.Param{{Code: 7, Out: 1, In: 8, Watch: 3, Count: 2}}, MaxSession: 1}, api.OK)
	// Codes that differ in one bit alone.
	for i := range 32 {
		a, b := seven, seven
		a.Code, b.Code = 1<<31|1, (1<<31|1)^1<<i
		if b.Code > 0 {
			refused(t, netOf(9, a, b), api.OK)
		}
	}
}

// Each pair of what may be wrong with a net at once: the first in the chapter's order is told.
func TestWhichErrorOfANet(t *testing.T) {
	faults := []struct {
		want api.Errno
		do   func(n *api.Net)
	}{
		{api.ErrRange, func(n *api.Net) { n.Hosts = nil }},
		{api.ErrRange, func(n *api.Net) { n.Devices = n.Devices[:2] }},
		{api.ErrRange, func(n *api.Net) { n.Hosts = append(n.Hosts, make([]api.Param, 6)...) }},
		{api.ErrRange, func(n *api.Net) { n.MaxSession = 0 }},
		{api.ErrParam, func(n *api.Net) {
			if len(n.Hosts) > 0 {
				n.Hosts[len(n.Hosts)-1].Out = 0
			}
		}},
		{api.ErrParam, func(n *api.Net) { n.Devices[0].Watch = 0 }},
		{api.ErrTwice, func(n *api.Net) {
			if len(n.Hosts) > 1 {
				n.Hosts[1].Code = n.Hosts[0].Code
			}
		}},
		{api.ErrTwice, func(n *api.Net) { n.Devices[1].Code = n.Devices[0].Code }},
	}
	for i, a := range faults {
		for _, b := range faults[i:] {
			n, m := netOf(9, sets[:3]...), netOf(9, sets[:3]...)
			a.do(&n)
			b.do(&n)
			refused(t, n, a.want)
			b.do(&m)
			a.do(&m)
			refused(t, m, a.want)
		}
	}
}

// A world at its beginning.
func TestNew(t *testing.T) {
	for n := 1; n <= api.MaxConns; n++ {
		k := with(t, sets[:n]...)
		k.holds()
		for conn, p := range sets[:n] {
			k.looks(conn, api.AtHost, api.End{State: api.Idle, Out: make([]byte, p.In)})
			k.looks(conn, api.AtDevice, api.End{State: api.Idle, Out: make([]byte, p.Out)})
			if got, e := k.w.Memory(conn); e != api.OK || !bytes.Equal(got, make([]byte, 16)) {
				t.Errorf("P17.1: Memory(%d): % x, %d, not 16 bytes 0", conn, got, e)
			}
		}
		if k.w.Moves() != 0 || k.w.Frames() != 0 || len(k.w.Facts()) != 0 {
			t.Errorf("P17.1: %d moves, %d frames, the facts %+v", k.w.Moves(), k.w.Frames(), k.w.Facts())
		}
		if got := k.w.Net(); !sameNet(got, netOf(9, sets[:n]...)) {
			t.Errorf("P17.3: Net: %+v", got)
		}
	}
}

// The greatest session is the net's.
func TestSessionsEnd(t *testing.T) {
	for sessions := uint32(1); sessions < 5; sessions++ {
		k := of(t, netOf(sessions, seven))
		for n := uint32(1); n <= sessions; n++ {
			k.plays(reset(0, api.AtHost, 0), api.OK, nothing)
			k.plays(reset(0, api.AtDevice, 0), api.OK, nothing)
			k.settles(0, 3)
			if got := k.see(0, api.AtDevice).Session; got != n {
				t.Errorf("P17.1: session %d, not %d", got, n)
			}
		}
		k.plays(reset(0, api.AtDevice, 0), api.OK, nothing)
		if row := k.plays(give(0, api.AtDevice, 0), api.ErrExhausted, k.w.Frames()); row.Dev.State != api.Done || row.Dev.Latched != api.ErrExhausted {
			t.Errorf("P7: behind the last session the device is %+v", row.Dev)
		}
		k.holds()
	}
}

// The errors of the calls that ask, in their order.
func TestAsking(t *testing.T) {
	k := with(t, sets[:3]...)
	k.settles(1, 3)
	k.holds()
	for _, conn := range []int{least, -1, 3, 4, 1 << 32, top} {
		for _, s := range []api.Side{least, -1, 0, api.AtHost, api.AtDevice, 3, top} {
			if got, e := k.w.See(conn, s); e != api.ErrConn || !sameEnd(got, api.End{}) {
				t.Errorf("P17.3, R2, R3: See(%d, %d): %+v, %d, not ErrConn", conn, s, got, e)
			}
		}
		if got, e := k.w.Memory(conn); e != api.ErrConn || len(got) > 0 {
			t.Errorf("P17.3, R3: Memory(%d): % x, %d, not ErrConn", conn, got, e)
		}
	}
	for conn := range 3 {
		for _, s := range []api.Side{least, -1, 0, 3, 1 << 32, 1<<32 + 1, top} {
			if got, e := k.w.See(conn, s); e != api.ErrSide || !sameEnd(got, api.End{}) {
				t.Errorf("P17.3, R3: See(%d, %d): %+v, %d, not ErrSide", conn, s, got, e)
			}
		}
	}
	for _, i := range []int{least, -1, k.w.Frames(), k.w.Frames() + 1, 1 << 32, top} {
		if got, e := k.w.Frame(i); e != api.ErrFrame || len(got) > 0 {
			t.Errorf("P17.3, R3: Frame(%d) of %d: % x, %d, not ErrFrame", i, k.w.Frames(), got, e)
		}
	}
	k.holds()
}

// everyKind: a lawful move of each kind, and of each side.
func everyKind() []api.Move {
	list := []api.Move{send(0), cut(0, 3)}
	for _, s := range []api.Side{api.AtHost, api.AtDevice} {
		list = append(list, write(0, s, true, 1, 2), give(0, s, 0), garble(0, s, 0, 3, 1), tick(0, s, 1), ack(0, s), reset(0, s, 0))
	}
	return list
}

// holdNone: a world that there isn't.
func holdNone(t *testing.T, w *world.World) {
	t.Helper()
	strange := []api.Move{{}, {Kind: 9}, {Kind: -1}, {Kind: api.MoveSend, Conn: 99}, {Kind: api.MoveTick, Side: 9, N: -1}, {Kind: api.MoveDeliver, Frame: -1}, {Kind: api.MoveReset, Side: api.AtHost, N: 1}}
	for _, m := range append(everyKind(), strange...) {
		if row, e := w.Play(m); e != api.ErrNil || !sameRow(row, api.Row{}) {
			t.Errorf("P17.2, R7: Play(%+v) of nil: %+v, %d, not ErrNil", m, row, e)
		}
	}
	for _, i := range []int{least, -1, 0, 1, 8, top} {
		for _, s := range []api.Side{0, api.AtHost, api.AtDevice, 3} {
			if got, e := w.See(i, s); e != api.ErrNil || !sameEnd(got, api.End{}) {
				t.Errorf("P17.3, R7: See(%d, %d) of nil: %+v, %d, not ErrNil", i, s, got, e)
			}
		}
		if got, e := w.Frame(i); e != api.ErrNil || len(got) > 0 {
			t.Errorf("P17.3, R7: Frame(%d) of nil: % x, %d, not ErrNil", i, got, e)
		}
		if got, e := w.Memory(i); e != api.ErrNil || len(got) > 0 {
			t.Errorf("P17.3, R7: Memory(%d) of nil: % x, %d, not ErrNil", i, got, e)
		}
	}
	if w.Moves() != 0 || w.Frames() != 0 || len(w.Facts()) != 0 || !sameNet(w.Net(), api.Net{}) {
		t.Errorf("R7: of nil: %d moves, %d frames, the facts %+v, the net %+v", w.Moves(), w.Frames(), w.Facts(), w.Net())
	}
}

func TestNil(t *testing.T) {
	holdNone(t, nil)
	// One that New has not made: the chapter says nothing of it, but P1 holds.
	holdNone(t, &world.World{})
}

// MaxMoves are played, of any kind; one more is refused, whatever it is.
func TestFull(t *testing.T) {
	k := with(t, seven, sets[1])
	for i := range api.MaxMoves {
		list := everyKind()
		if i == 0 {
			list = list[:1]
		}
		m := list[i%len(list)]
		m.Conn = 0
		if i%3 == 2 {
			m = send(1)
		}
		if _, e := k.play(m); e != api.OK {
			t.Fatalf("P17.2: move %d, %+v: %d", i+1, m, e)
		}
		if k.w.Moves() != i+1 {
			t.Fatalf("P17.3: Moves: %d, not %d", k.w.Moves(), i+1)
		}
	}
	k.holds()
	for _, m := range append(everyKind(), api.Move{}, api.Move{Kind: 99}, send(-1), send(2), ack(0, 0), give(0, api.AtHost, -1), garble(0, api.AtHost, 0, -1, 0), tick(0, api.AtHost, -1), reset(0, api.AtHost, 1), cut(0, -1)) {
		k.refuses(m, api.ErrFull)
	}
	k.holds()
	if k.w.Moves() != 4096 {
		t.Errorf("P17.2: %d moves", k.w.Moves())
	}
}

// Every move sends: the bag has room for all of it.
func TestFullOfFrames(t *testing.T) {
	k := with(t, seven)
	for i := range api.MaxMoves {
		k.plays(send(0), api.OK, i)
	}
	k.refuses(send(0), api.ErrFull)
	k.holds()
	if k.w.Frames() != 4096 {
		t.Errorf("P17.3: %d frames", k.w.Frames())
	}
}

// Moves that are refused are not counted: many of them leave room for all others.
func TestRefusedAreNotCounted(t *testing.T) {
	k := with(t, seven)
	for range api.MaxMoves + 10 {
		k.refuses(ack(0, 3), api.ErrSide)
		k.refuses(send(1), api.ErrConn)
	}
	k.holds()
	for i := range api.MaxMoves {
		if i < 4000 {
			k.plays(tick(0, api.AtHost, 0), api.OK, nothing)
			continue
		}
		k.plays(send(0), api.OK, i-4000)
	}
	k.refuses(send(0), api.ErrFull)
	k.holds()
}
