package trace_test

import (
	"reflect"
	"strings"
	"testing"

	"parapet/api"
	"parapet/script"
	"parapet/trace"
)

var idle = api.End{State: api.Idle}

// P21.2, the chapter's example.
func TestLineExample(t *testing.T) {
	r := api.Row{Move: api.Move{Kind: api.MoveSend}, Sent: 4, Host: idle, Dev: idle}
	if line, e := trace.Line(r); line != "send 0 -> 0 sent 4 h:idle,0,0,0,0,0,off d:idle,0,0,0,0,0,off" || e != api.OK {
		t.Errorf("P21.2: Line(%+v): %q, %d", r, line, e)
	}
}

// A move of each kind, its line written out.
func TestLineKinds(t *testing.T) {
	for _, v := range []struct {
		m    api.Move
		want string
	}{
		{api.Move{Kind: api.MoveWrite, Side: h}, "write 0 h x"},
		{api.Move{Kind: api.MoveWrite, Conn: 1, Side: d, Data: []byte{0xab, 0}, Hold: true}, "write 1 d xab00 hold"},
		{api.Move{Kind: api.MoveWrite, Side: d, Data: []byte{1, 2, 3, 4, 5, 6, 7, 0xff}}, "write 0 d x01020304050607ff"},
		{api.Move{Kind: api.MoveSend, Conn: 12}, "send 12"},
		{api.Move{Kind: api.MoveDeliver, Conn: 1, Side: h, Frame: 20}, "deliver 1 h 20"},
		{api.Move{Kind: api.MoveGarble, Conn: 1, Side: d, Frame: 2, At: 3, Word: most}, "garble 1 d 2 3 4294967295"},
		{api.Move{Kind: api.MoveTick, Side: h, N: 5}, "tick 0 h 5"},
		{api.Move{Kind: api.MoveAck, Side: d}, "ack 0 d"},
		{api.Move{Kind: api.MoveReset, Conn: 7, Side: d, N: 4}, "reset 7 d 4"},
		{api.Move{Kind: api.MoveCut, Conn: most, N: most}, "cut 4294967295 4294967295"},
		// What a kind doesn't use doesn't matter.
		{api.Move{Kind: api.MoveSend, Side: 9, Frame: -1, At: -1, N: -1, Data: make([]byte, 9), Hold: true}, "send 0"},
	} {
		r := api.Row{Move: v.m, Code: api.ErrStale, Sent: -1, Host: idle, Dev: api.End{State: api.Down}}
		want := v.want + " -> 130 h:idle,0,0,0,0,0,off d:down,0,0,0,0,0,off"
		if line, e := trace.Line(r); line != want || e != api.OK {
			t.Errorf("P21.2: Line(%+v): %q, %d, not %q", r, line, e, want)
		}
	}
}

// Moves that have no line: each error, and of two the one that the document names first.
func TestLineWrongMoves(t *testing.T) {
	nine := make([]byte, 9)
	for _, v := range []struct {
		m    api.Move
		want api.Errno
	}{
		{api.Move{Kind: api.MoveSend, Conn: -1}, api.ErrRange},
		{api.Move{Kind: api.MoveSend, Conn: most + 1}, api.ErrRange},
		{api.Move{Kind: api.MoveDeliver, Side: h, Frame: -1}, api.ErrRange},
		{api.Move{Kind: api.MoveGarble, Side: h, At: most + 1}, api.ErrRange},
		{api.Move{Kind: api.MoveTick, Side: h, N: top}, api.ErrRange},
		{api.Move{Kind: api.MoveReset, Side: h, N: least}, api.ErrRange},
		{api.Move{Kind: api.MoveCut, N: -1}, api.ErrRange},
		{api.Move{Kind: api.MoveWrite}, api.ErrSide},
		{api.Move{Kind: api.MoveAck, Side: 3}, api.ErrSide},
		{api.Move{Kind: api.MoveTick, Side: -1}, api.ErrSide},
		{api.Move{}, api.ErrSide},
		{api.Move{Kind: api.MoveWrite, Side: d, Data: nine}, api.ErrLength},
		{api.Move{Side: h}, api.ErrMove},
		{api.Move{Kind: 9, Side: d}, api.ErrMove},
		{api.Move{Kind: -1, Side: h}, api.ErrMove},
		{api.Move{Kind: top, Side: h}, api.ErrMove},
		{api.Move{Kind: least, Side: h}, api.ErrMove},
		// Two faults, and three.
		{api.Move{Kind: api.MoveAck, Conn: -1}, api.ErrRange},
		{api.Move{Kind: api.MoveWrite, Conn: -1, Side: h, Data: nine}, api.ErrRange},
		{api.Move{Kind: 9, Conn: -1, Side: h}, api.ErrRange},
		{api.Move{Kind: 9, Conn: -1}, api.ErrRange},
		{api.Move{Kind: api.MoveWrite, Side: 3, Data: nine}, api.ErrSide},
		{api.Move{Kind: 9, Side: 3}, api.ErrSide},
		{api.Move{Kind: 9, Side: h, Data: nine, Frame: -1, At: -1, N: -1}, api.ErrMove},
	} {
		for _, r := range []api.Row{
			{Move: v.m},
			{Move: v.m, Sent: -1, Host: idle, Dev: idle},
			{Move: v.m, Code: api.ErrCut, Sent: 3, Host: api.End{On: true, Out: nine}},
		} {
			if line, e := trace.Line(r); line != "" || e != v.want {
				t.Errorf("P21.2: Line(%+v): %q, %d, not %d", r, line, e, v.want)
			}
		}
	}
}

// The Code's number and Sent, behind the move.
func TestLineCodeAndSent(t *testing.T) {
	for _, v := range []struct {
		code api.Errno
		sent int
		want string
	}{
		{api.OK, -1, "send 0 -> 0 h:"},
		{api.OK, 0, "send 0 -> 0 sent 0 h:"},
		{api.OK, 1, "send 0 -> 0 sent 1 h:"},
		{api.OK, top, "send 0 -> 0 sent 9223372036854775807 h:"},
		{api.OK, -2, "send 0 -> 0 h:"},
		{api.OK, least, "send 0 -> 0 h:"},
		{api.ErrCheck, -1, "send 0 -> 42 h:"},
		{api.ErrStale, 4, "send 0 -> 130 sent 4 h:"},
		{api.ErrEmpty, 0, "send 0 -> 205 sent 0 h:"},
		{3, 5, "send 0 -> 3 sent 5 h:"},
		{999, -1, "send 0 -> 999 h:"},
		{-7, 2, "send 0 -> -7 sent 2 h:"},
		{top, -1, "send 0 -> 9223372036854775807 h:"},
		{least, 0, "send 0 -> -9223372036854775808 sent 0 h:"},
	} {
		r := api.Row{Move: api.Move{Kind: api.MoveSend}, Code: v.code, Sent: v.sent, Host: idle, Dev: idle}
		want := v.want + "idle,0,0,0,0,0,off d:idle,0,0,0,0,0,off"
		if line, e := trace.Line(r); line != want || e != api.OK {
			t.Errorf("P21.2: Line(%+v): %q, %d, not %q", r, line, e, want)
		}
	}
	for _, m := range goodMoves {
		for _, code := range anyCodes {
			for _, sent := range anyInts {
				saysLine(t, api.Row{Move: m, Code: code, Sent: sent, Host: idle, Dev: idle})
			}
		}
	}
}

// The host's end stands ahead of the device's, each with its own fields.
func TestLineEnds(t *testing.T) {
	host := api.End{State: api.Running, Session: 1, Number: 2, Sent: 3, Since: 4, On: true, Out: []byte{0xcc}}
	dev := api.End{State: api.Offered, Session: 5, Number: 6, Sent: 7, Since: 8, Latched: api.ErrResync, Request: true, Out: []byte{0xaa}}
	ack := api.Move{Kind: api.MoveAck, Side: d}
	one := api.Row{Move: ack, Code: api.ErrRequest, Sent: -1, Host: host, Dev: dev}
	if line, e := trace.Line(one); line != "ack 0 d -> 110 h:running,1,2,3,4,0,on:cc d:offered,5,6,7,8,131,ask,off" || e != api.OK {
		t.Errorf("P21.2: Line(%+v): %q, %d", one, line, e)
	}
	other := api.Row{Move: ack, Code: api.ErrRequest, Sent: -1, Host: dev, Dev: host}
	if line, e := trace.Line(other); line != "ack 0 d -> 110 h:offered,5,6,7,8,131,ask,off d:running,1,2,3,4,0,on:cc" || e != api.OK {
		t.Errorf("P21.2: Line(%+v): %q, %d", other, line, e)
	}
	zero := api.Row{Move: ack}
	if line, e := trace.Line(zero); line != "ack 0 d -> 0 sent 0 h:?0,0,0,0,0,0,off d:?0,0,0,0,0,0,off" || e != api.OK {
		t.Errorf("P21.2: Line(%+v): %q, %d", zero, line, e)
	}
	c := &chance{at: 4}
	for range 5000 {
		saysLine(t, c.row())
		saysLine(t, c.bad())
	}
}

// Ahead of the arrow stands the move, to be read again.
func TestLineMoveIsRead(t *testing.T) {
	for _, m := range goodMoves {
		line, _ := trace.Line(api.Row{Move: m, Sent: -1})
		ahead, behind, found := strings.Cut(line, " -> ")
		back, e := script.Read(script.Words(ahead))
		if len(back.Data) == 0 {
			back.Data = nil // nothing and a list without elements are the same (R5)
		}
		if !found || e != api.OK || !reflect.DeepEqual(back, m) {
			t.Errorf("P21.2: %q: ahead of the arrow stands %+v, %d, not %+v", line, back, e, m)
		}
		if words := strings.Split(behind, " "); len(words) != 3 || words[1][:2] != "h:" || words[2][:2] != "d:" {
			t.Errorf("P21.2: %q: behind the arrow stands %q", line, words)
		}
	}
}
