package script_test

import (
	"testing"

	"parapet/api"
	"parapet/script"
)

// Each kind's line, written out.
func TestMoveLines(t *testing.T) {
	for _, v := range []struct {
		m    api.Move
		want string
	}{
		{api.Move{Kind: api.MoveWrite, Side: h}, "write 0 h x"},
		{api.Move{Kind: api.MoveWrite, Side: h, Data: []byte{}, Hold: true}, "write 0 h x hold"},
		{api.Move{Kind: api.MoveWrite, Conn: 3, Side: d, Data: []byte{0, 1, 0x0f, 0x10, 0x9a, 0xa9, 0xf0, 0xff}}, "write 3 d x00010f109aa9f0ff"},
		{api.Move{Kind: api.MoveSend, Conn: 12}, "send 12"},
		{api.Move{Kind: api.MoveDeliver, Conn: 1, Side: h, Frame: 20}, "deliver 1 h 20"},
		{api.Move{Kind: api.MoveGarble, Conn: 1, Side: d, Frame: 2, At: 3, Word: most}, "garble 1 d 2 3 4294967295"},
		{api.Move{Kind: api.MoveTick, Side: h, N: 5}, "tick 0 h 5"},
		{api.Move{Kind: api.MoveAck, Side: d}, "ack 0 d"},
		{api.Move{Kind: api.MoveReset, Conn: 7, Side: d, N: 4}, "reset 7 d 4"},
		{api.Move{Kind: api.MoveCut, Conn: 7, N: 2}, "cut 7 2"},
		{api.Move{Kind: api.MoveCut, Conn: most, N: most}, "cut 4294967295 4294967295"},
	} {
		if line, e := script.Move(v.m); line != v.want || e != api.OK {
			t.Errorf("P20.1: Move(%+v): %q, %d, not %q", v.m, line, e, v.want)
		}
	}
}

// anyKinds are the eight, and kinds that are none.
var anyKinds = []api.MoveKind{least, -8, -1, 0, 1, 2, 3, 4, 5, 6, 7, 8, 9, 1 << 32, 1<<32 + 1, top}

// anySides are the two, and sides that are none.
var anySides = []api.Side{least, -1, 0, h, d, 3, 1<<32 + 1, top}

// One number at an edge, at each place, of each kind, used or not.
func TestMoveNumbers(t *testing.T) {
	edges := []int{least, -most, -1, 0, 1, 1<<31 - 1, 1 << 31, most - 1, most, most + 1, most + 2, top}
	for _, k := range anyKinds {
		for _, side := range []api.Side{0, h, d} {
			for _, n := range edges {
				base := api.Move{Kind: k, Conn: 1, Side: side, Frame: 2, At: 3, N: 4}
				for i := range 5 {
					m := base
					switch i {
					case 0:
						m.Conn = n
					case 1:
						m.Frame = n
					case 2:
						m.At = n
					case 3:
						m.N = n
					default:
						m.Word = uint32(n)
					}
					saysMove(t, m)
				}
			}
		}
	}
}

// Each side, data of each length, with and without Hold, of each kind.
func TestMoveSidesAndData(t *testing.T) {
	c := &chance{at: 3}
	for _, k := range anyKinds {
		for _, side := range anySides {
			for _, length := range []int{0, 1, 2, 7, 8, 9, 10, 16, 300} {
				for _, hold := range []bool{false, true} {
					saysMove(t, api.Move{Kind: k, Conn: 5, Side: side, Data: c.bytes(length), Hold: hold})
				}
			}
		}
	}
}

// Of several faults the one that the document names first is told.
func TestMoveFaultsInOrder(t *testing.T) {
	nine := make([]byte, 9)
	for _, v := range []struct {
		m    api.Move
		want api.Errno
	}{
		{api.Move{Kind: 9, Conn: -1, Side: 3}, api.ErrRange},
		{api.Move{Kind: 9, Side: 3}, api.ErrSide},
		{api.Move{Kind: 0, Side: h, Data: nine, Frame: -1, At: -1, N: -1}, api.ErrMove},
		{api.Move{Kind: -1, Side: 0, Data: nine}, api.ErrSide},
		{api.Move{Kind: api.MoveWrite, Conn: most + 1, Side: 0, Data: nine}, api.ErrRange},
		{api.Move{Kind: api.MoveWrite, Side: 0, Data: nine}, api.ErrSide},
		{api.Move{Kind: api.MoveWrite, Side: d, Data: nine}, api.ErrLength},
		{api.Move{Kind: api.MoveGarble, Side: 0, At: -1}, api.ErrRange},
		{api.Move{Kind: api.MoveTick, Side: 0, N: most + 1}, api.ErrRange},
		{api.Move{Kind: api.MoveAck, Conn: -1, Side: 0}, api.ErrRange},
	} {
		if line, e := script.Move(v.m); line != "" || e != v.want {
			t.Errorf("P20.1: Move(%+v): %q, %d, not %d", v.m, line, e, v.want)
		}
	}
	numbers := []int{-1, 0, most, most + 1}
	for _, k := range anyKinds {
		for _, side := range []api.Side{0, h, d, 3} {
			for _, data := range [][]byte{nil, nine[:8], nine} {
				for code := range 256 {
					saysMove(t, api.Move{
						Kind: k, Side: side, Data: data,
						Conn: numbers[code&3], Frame: numbers[code>>2&3], At: numbers[code>>4&3], N: numbers[code>>6],
					})
				}
			}
		}
	}
}

// What a kind doesn't use doesn't matter.
func TestMoveUnused(t *testing.T) {
	c := &chance{at: 4}
	for range 5000 {
		m := c.move()
		saysMove(t, m)
		line, _ := script.Move(m)
		if again, e := script.Move(c.messed(m)); again != line || e != api.OK {
			t.Fatalf("P20.1: %q, and with what the kind doesn't use %q, %d", line, again, e)
		}
	}
}
