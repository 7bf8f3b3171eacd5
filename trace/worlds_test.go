package trace_test

import (
	"strings"
	"testing"

	"parapet/api"
	"parapet/script"
	"parapet/trace"
	"parapet/world"
)

// history is a script behind each of whose moves stands what comes of it, as the document says: its examples 1 to 4.
const history = `send 0 -> 0 sent 0 h:idle,0,0,0,0,0,off d:idle,0,0,0,0,0,off
deliver 0 d 0 -> 0 sent 1 h:idle,0,0,0,0,0,off d:offered,1,0,0,0,0,off
deliver 0 h 1 -> 0 h:offered,1,0,0,0,0,off d:offered,1,0,0,0,0,off
send 0 -> 0 sent 2 h:offered,1,0,0,0,0,off d:offered,1,0,0,0,0,off
deliver 0 d 2 -> 0 sent 3 h:offered,1,0,0,0,0,off d:agreed,1,0,0,0,0,off
deliver 0 h 3 -> 0 h:agreed,1,0,0,0,0,off d:agreed,1,0,0,0,0,off
send 0 -> 0 sent 4 h:agreed,1,0,0,0,0,off d:agreed,1,0,0,0,0,off
deliver 0 d 4 -> 0 sent 5 h:agreed,1,0,0,0,0,off d:running,1,0,0,0,0,off
deliver 0 h 5 -> 0 h:running,1,0,0,0,0,off d:running,1,0,0,0,0,off
write 0 h xaabb -> 0 h:running,1,0,0,0,0,off d:running,1,0,0,0,0,off
write 0 d xcc -> 0 h:running,1,0,0,0,0,off d:running,1,0,0,0,0,off
write 0 d xccdd -> 45 h:running,1,0,0,0,0,off d:running,1,0,0,0,0,off
send 0 -> 0 sent 6 h:running,1,0,1,0,0,off d:running,1,0,0,0,0,off
deliver 0 d 6 -> 0 sent 7 h:running,1,0,1,0,0,off d:running,1,1,1,0,0,on:aabb
deliver 0 h 7 -> 0 h:running,1,1,1,0,0,on:cc d:running,1,1,1,0,0,on:aabb
tick 0 d 10 -> 0 h:running,1,1,1,0,0,on:cc d:running,1,1,1,10,100,off
ack 0 d -> 110 h:running,1,1,1,0,0,on:cc d:running,1,1,1,10,100,off
deliver 0 d 6 -> 130 sent 8 h:running,1,1,1,0,0,on:cc d:running,1,1,1,10,100,off
garble 0 d 6 3 1 -> 42 h:running,1,1,1,0,0,on:cc d:running,1,1,1,10,100,off
send 0 -> 0 sent 9 h:running,1,1,2,0,0,on:cc d:running,1,1,1,10,100,off
deliver 0 d 9 -> 0 sent 10 h:running,1,1,2,0,0,on:cc d:running,1,2,2,0,100,ask,off
ack 0 d -> 0 h:running,1,1,2,0,0,on:cc d:running,1,2,2,0,0,off
cut 0 0 -> 0 h:running,1,1,2,0,0,on:cc d:running,1,2,2,0,0,off
reset 0 h 0 -> 0 h:idle,0,0,0,0,0,off d:running,1,2,2,0,0,off
`

// noted are the facts of that history but for the outputs, which stand behind each move.
var noted = strings.Fields(`
session_0_d_1
fresh_0_h
fresh_0_d fresh_0_h
fresh_0_d fresh_0_h
sent_0_h_1_1_xaabb
fresh_0_d taken_0_d_1_1_xaabb sent_0_d_1_1_xcc
fresh_0_h taken_0_h_1_1_xcc
tick_0_d_10
sent_0_h_1_2_xaabb
fresh_0_d taken_0_d_1_2_xaabb sent_0_d_1_2_xcc
ack_0_d
reset_0_h
`)

// play plays the moves that stand ahead of the arrows.
func play(t *testing.T, w *world.World, told string) []api.Row {
	t.Helper()
	var rows []api.Row
	for line := range strings.Lines(told) {
		ahead, _, _ := strings.Cut(line, " -> ")
		m, e := script.Read(script.Words(ahead))
		if e != api.OK {
			t.Fatalf("Read of %q: %d", ahead, e)
		}
		row, e := w.Play(m)
		if e != api.OK {
			t.Fatalf("Play(%+v): %d", m, e)
		}
		rows = append(rows, row)
	}
	return rows
}

func newWorld(t *testing.T) *world.World {
	t.Helper()
	set := api.Param{Code: 7, Out: 2, In: 1, Watch: 10, Count: 100}
	w, e := world.New(api.Net{Hosts: []api.Param{set}, Devices: []api.Param{set}, MaxSession: 9})
	if e != api.OK {
		t.Fatalf("New: %d", e)
	}
	return w
}

// P21.2: the rows of a world that is played.
func TestTextOfWorld(t *testing.T) {
	text, at, e := trace.Text(play(t, newWorld(t), history))
	if text != history || at != 0 || e != api.OK {
		t.Errorf("P21.2: %d, %d:\n%snot:\n%s", at, e, text, history)
	}
}

// P21.3: the facts of a world that is played.
func TestFactsOfWorld(t *testing.T) {
	w := newWorld(t)
	rows := play(t, w, history)
	var outs, others []string
	for _, f := range w.Facts() {
		line := trace.Fact(f)
		if strings.HasPrefix(line, "out ") {
			outs = append(outs, line)
		} else {
			others = append(others, strings.ReplaceAll(line, " ", "_"))
		}
	}
	if got, want := strings.Join(others, "\n"), strings.Join(noted, "\n"); got != want {
		t.Errorf("P21.3: the facts:\n%s\nnot:\n%s", got, want)
	}
	if len(outs) != 2*len(rows) {
		t.Fatalf("P21.3: %d lines of outputs behind %d moves", len(outs), len(rows))
	}
	for _, v := range []struct {
		move      int
		host, dev string
	}{
		{0, "out 0 h off 0 x00", "out 0 d off 0 x0000"},
		{13, "out 0 h off 0 x00", "out 0 d on 0 xaabb"},
		{14, "out 0 h on 0 xcc", "out 0 d on 0 xaabb"},
		{15, "out 0 h on 0 xcc", "out 0 d off 100 x0000"},
		{21, "out 0 h on 0 xcc", "out 0 d off 0 x0000"},
		{23, "out 0 h off 0 x00", "out 0 d off 0 x0000"},
	} {
		if outs[2*v.move] != v.host || outs[2*v.move+1] != v.dev {
			t.Errorf("P21.3: behind the move %d: %q and %q, not %q and %q", v.move, outs[2*v.move], outs[2*v.move+1], v.host, v.dev)
		}
	}
}
