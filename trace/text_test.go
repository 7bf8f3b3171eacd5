package trace_test

import (
	"slices"
	"strings"
	"testing"

	"parapet/api"
	"parapet/trace"
)

// P21.2, written out: no row, one, several.
func TestText(t *testing.T) {
	send := api.Row{Move: api.Move{Kind: api.MoveSend}, Sent: 4, Host: idle, Dev: idle}
	sendLine := "send 0 -> 0 sent 4 h:idle,0,0,0,0,0,off d:idle,0,0,0,0,0,off\n"
	tick := api.Row{Move: api.Move{Kind: api.MoveTick, Side: d, N: 3}, Code: api.ErrRange, Sent: -1, Host: idle, Dev: api.End{State: api.Down}}
	tickLine := "tick 0 d 3 -> 2 h:idle,0,0,0,0,0,off d:down,0,0,0,0,0,off\n"
	for _, v := range []struct {
		rows []api.Row
		want string
	}{
		{nil, ""},
		{[]api.Row{}, ""},
		{[]api.Row{send}, sendLine},
		{[]api.Row{send, tick}, sendLine + tickLine},
		{[]api.Row{tick, send}, tickLine + sendLine},
		{[]api.Row{send, send, tick, send}, sendLine + sendLine + tickLine + sendLine},
	} {
		if text, at, e := trace.Text(v.rows); text != v.want || at != 0 || e != api.OK {
			t.Errorf("P21.2: Text(%+v): %q, %d, %d, not %q", v.rows, text, at, e, v.want)
		}
	}
}

// One row without a line at each place, with each error: its number and that error, and no text.
func TestTextWrongRow(t *testing.T) {
	c := &chance{at: 5}
	for _, v := range []struct {
		m api.Move
		e api.Errno
	}{
		{api.Move{Kind: api.MoveSend, Conn: -1}, api.ErrRange},
		{api.Move{Kind: api.MoveAck}, api.ErrSide},
		{api.Move{Kind: api.MoveWrite, Side: h, Data: make([]byte, 9)}, api.ErrLength},
		{api.Move{Side: h}, api.ErrMove},
	} {
		for _, length := range []int{1, 2, 5} {
			for place := range length {
				rows := c.rows(length)
				rows[place].Move = v.m
				if text, at, e := trace.Text(rows); text != "" || at != place || e != v.e {
					t.Fatalf("P21.2: of %d rows the one with the number %d has none: %q, %d, %d, not %d", length, place, text, at, e, v.e)
				}
			}
		}
	}
}

// Of two rows without a line the first one is told.
func TestTextTwoWrongRows(t *testing.T) {
	c := &chance{at: 6}
	for _, a := range badMoves {
		for _, b := range badMoves {
			for first := range 4 {
				for second := first + 1; second < 5; second++ {
					rows := c.rows(5)
					rows[first].Move, rows[second].Move = a, b
					_, wrong := trace.Line(rows[first])
					if text, at, e := trace.Text(rows); text != "" || at != first || e != wrong || e == api.OK {
						t.Fatalf("P21.2: the rows %d and %d have none: %q, %d, %d, not %d", first, second, text, at, e, wrong)
					}
				}
			}
		}
	}
}

// Any rows, with and without lines.
func TestTextAnyRows(t *testing.T) {
	c := &chance{at: 7}
	for range 2000 {
		rows := c.rows(c.below(8))
		for range c.below(3) {
			rows = slices.Insert(rows, c.below(len(rows)+1), c.bad())
		}
		saysText(t, rows)
	}
}

// As many rows as a world plays, and more: a line each, as Line answers it.
func TestTextManyRows(t *testing.T) {
	c := &chance{at: 8}
	rows := c.rows(4 * api.MaxMoves)
	text, at, e := trace.Text(rows)
	lines := strings.SplitAfter(text, "\n")
	if len(lines) != len(rows)+1 || lines[len(rows)] != "" || at != 0 || e != api.OK {
		t.Fatalf("P21.2: of %d rows: %d lines, %d, %d", len(rows), len(lines)-1, at, e)
	}
	for i, r := range rows {
		if line, _ := trace.Line(r); lines[i] != line+"\n" {
			t.Fatalf("P21.2: the line %d is %q, not %q", i, lines[i], line)
		}
	}
	rows = append(rows, c.bad())
	if text, at, e := trace.Text(rows); text != "" || at != len(rows)-1 || e == api.OK {
		t.Fatalf("P21.2: the last of %d rows has none: %d bytes, %d, %d", len(rows), len(text), at, e)
	}
}
