package script_test

import (
	"fmt"
	"slices"
	"strings"
	"testing"

	"parapet/api"
	"parapet/script"
)

func saysPrint(t *testing.T, n api.Net, moves []api.Move, want string, wrong api.Errno) {
	t.Helper()
	if text, e := script.Print(n, moves); text != want || e != wrong {
		t.Fatalf("P20.2: Print(%s, %s): %s, %d, not %s, %d", short(n), short(moves), short(text), e, short(want), wrong)
	}
}

func TestPrint(t *testing.T) {
	nine := seven
	nine.Code = 9
	send := []api.Move{{Kind: api.MoveSend}}
	saysPrint(t, api.Net{}, nil, "net 0\n", api.OK)
	saysPrint(t, api.Net{Hosts: []api.Param{}, Devices: []api.Param{}, MaxSession: most}, []api.Move{}, "net 4294967295\n", api.OK)
	saysPrint(t, api.Net{Hosts: []api.Param{seven}}, nil, "net 0\nhost 7 2 1 10 100\n", api.OK)
	saysPrint(t, api.Net{Devices: []api.Param{seven}, MaxSession: 1}, nil, "net 1\ndevice 7 2 1 10 100\n", api.OK)
	saysPrint(t, api.Net{MaxSession: 2}, send, "net 2\nsend 0\n", api.OK)
	saysPrint(t, api.Net{Hosts: []api.Param{nine, seven}, Devices: []api.Param{seven, nine}, MaxSession: 9},
		[]api.Move{{Kind: api.MoveCut, N: 2}, {Kind: api.MoveSend, Conn: 1}, {Kind: api.MoveWrite, Side: d, Hold: true}},
		"net 9\nhost 9 2 1 10 100\nhost 7 2 1 10 100\ndevice 7 2 1 10 100\ndevice 9 2 1 10 100\ncut 0 2\nsend 1\nwrite 0 d x hold\n", api.OK)
	// A net that no world would take is printed all the same.
	many := slices.Repeat([]api.Param{seven}, 20)
	saysPrint(t, api.Net{Hosts: many}, nil, "net 0\n"+strings.Repeat("host 7 2 1 10 100\n", 20), api.OK)
}

// Each way in which a set isn't lawful, of a host and of a device, at each place.
func TestPrintUnlawful(t *testing.T) {
	wrongMove := []api.Move{{Kind: 9, Side: h}}
	for i := range 10 {
		p := seven
		switch i {
		case 0:
			p.Code = 0
		case 1:
			p.Out = 0
		case 2:
			p.Out = 9
		case 3:
			p.In = 0
		case 4:
			p.In = 9
		case 5:
			p.Watch = 0
		case 6:
			p.Watch = 1<<20 + 1
		case 7:
			p.Count = 1
		case 8:
			p.Out = -1
		default:
			p = api.Param{}
		}
		good := []api.Param{seven, seven, seven}
		for place := range 3 {
			bad := slices.Clone(good)
			bad[place] = p
			for _, moves := range [][]api.Move{nil, {{Kind: api.MoveSend}}, wrongMove} {
				saysPrint(t, api.Net{Hosts: bad, MaxSession: 9}, moves, "", api.ErrParam)
				saysPrint(t, api.Net{Devices: bad, MaxSession: 9}, moves, "", api.ErrParam)
				saysPrint(t, api.Net{Hosts: good, Devices: bad}, moves, "", api.ErrParam)
				saysPrint(t, api.Net{Hosts: bad, Devices: good}, moves, "", api.ErrParam)
			}
		}
	}
	edge := api.Param{Code: most, Out: 8, In: 8, Watch: 1 << 20, Count: 2}
	saysPrint(t, api.Net{Hosts: []api.Param{edge}}, wrongMove, "", api.ErrMove)
	saysPrint(t, api.Net{Hosts: []api.Param{edge}}, nil, "net 0\nhost 4294967295 8 8 1048576 2\n", api.OK)
}

// Of the first move that has one, Move's error.
func TestPrintWrongMoves(t *testing.T) {
	wrong := []struct {
		m api.Move
		e api.Errno
	}{
		{api.Move{Kind: api.MoveSend, Conn: -1}, api.ErrRange},
		{api.Move{Kind: api.MoveAck}, api.ErrSide},
		{api.Move{Kind: api.MoveWrite, Side: h, Data: make([]byte, 9)}, api.ErrLength},
		{api.Move{Side: h}, api.ErrMove},
	}
	n := api.Net{Hosts: []api.Param{seven}, Devices: []api.Param{seven}, MaxSession: 9}
	for _, v := range wrong {
		for place := range 4 {
			moves := slices.Repeat([]api.Move{{Kind: api.MoveSend}}, 4)
			moves[place] = v.m
			saysPrint(t, n, moves, "", v.e)
			for _, w := range wrong {
				saysPrint(t, n, append(slices.Clone(moves), w.m), "", v.e)
			}
		}
	}
}

// sized are moves whose lines have just so many bytes, their ends counted: 7 at least.
func sized(bytes int) []api.Move {
	var moves []api.Move
	for ; bytes >= 14; bytes -= 7 {
		moves = append(moves, api.Move{Kind: api.MoveSend, Conn: len(moves) % 10})
	}
	conn := 1
	for range bytes - 7 {
		conn *= 10
	}
	return append(moves, api.Move{Kind: api.MoveSend, Conn: conn})
}

// A text of just MaxText bytes, and longer ones.
func TestPrintLimit(t *testing.T) {
	n := api.Net{Hosts: []api.Param{seven}, Devices: []api.Param{seven}, MaxSession: 9}
	head := len("net 9\nhost 7 2 1 10 100\ndevice 7 2 1 10 100\n")
	for _, size := range []int{1 << 17, 1<<18 - 8, 1<<18 - 1, 1 << 18} {
		moves := sized(size - head)
		text, e := script.Print(n, moves)
		if e != api.OK || len(text) != size {
			t.Fatalf("P20.2: of %d bytes: %d bytes, %d", size, len(text), e)
		}
		var b strings.Builder
		b.WriteString("net 9\nhost 7 2 1 10 100\ndevice 7 2 1 10 100\n")
		for _, m := range moves {
			fmt.Fprintf(&b, "send %d\n", m.Conn)
		}
		if text != b.String() {
			t.Fatalf("P20.2: of %d bytes: another text", size)
		}
		if p := parse(text); !p.same(parsed{net: n, moves: moves}) {
			t.Fatalf("P20.5: of %d bytes: %s", size, short(p))
		}
	}
	for _, over := range []int{1, 2, 6, 7, 8, 1 << 12, 1 << 18} {
		moves := sized(1<<18 + over - head)
		saysPrint(t, n, moves, "", api.ErrLines)
		// A fault behind the limit is told ahead of it; a set's too.
		saysPrint(t, n, append(moves, api.Move{Kind: api.MoveSend, Conn: -1}), "", api.ErrRange)
		saysPrint(t, n, append(moves, api.Move{Side: d}), "", api.ErrMove)
		saysPrint(t, api.Net{Hosts: []api.Param{{}}}, moves, "", api.ErrParam)
	}
	// Beyond the limit a short line doesn't come in again.
	long := sized(1<<18 + 3 - head)
	saysPrint(t, n, append(long, api.Move{Kind: api.MoveSend}), "", api.ErrLines)
	// By the sets alone.
	host := len("host 7 2 1 10 100\n")
	fits := (1<<18 - len("net 9\n")) / host
	sets := slices.Repeat([]api.Param{seven}, fits+1)
	saysPrint(t, api.Net{Hosts: sets[:fits], MaxSession: 9}, nil, "net 9\n"+strings.Repeat("host 7 2 1 10 100\n", fits), api.OK)
	saysPrint(t, api.Net{Hosts: sets, MaxSession: 9}, nil, "", api.ErrLines)
	saysPrint(t, api.Net{Devices: sets, MaxSession: 9}, nil, "", api.ErrLines)
}
