package trace_test

import (
	"bytes"
	"reflect"
	"slices"
	"strings"
	"sync"
	"testing"

	"parapet/api"
	"parapet/trace"
)

// roomy is a list of these elements, with others ahead of it and in its spare room.
func roomy[V any](list []V, other V) (part, whole []V) {
	whole = slices.Concat(slices.Repeat([]V{other}, 3), list, slices.Repeat([]V{other}, 9))
	return whole[3 : 3+len(list)], whole
}

func spoil[V any](list []V, with V) {
	for i := range list {
		list[i] = with
	}
}

// watched are lists of bytes, and what was in them and around them.
type watched struct{ all, were [][]byte }

// roomy: the bytes, in a list that is watched.
func (w *watched) roomy(list []byte) []byte {
	part, whole := roomy(list, 0x5a)
	w.all, w.were = append(w.all, whole), append(w.were, bytes.Clone(whole))
	return part
}

func (w *watched) changed() bool { return !slices.EqualFunc(w.all, w.were, bytes.Equal) }

func (w *watched) spoil() {
	for _, list := range w.all {
		spoil(list, 0xee)
	}
}

// row is the same one, its lists watched.
func (w *watched) row(r api.Row) api.Row {
	r.Move.Data = w.roomy(r.Move.Data)
	r.Host.Out = w.roomy(r.Host.Out)
	r.Dev.Out = w.roomy(r.Dev.Out)
	return r
}

// R6: End leaves Out and the room around it, and keeps nothing of it.
func TestEndLeavesOut(t *testing.T) {
	c := &chance{at: 12}
	for range 1000 {
		x := c.end()
		want := wantEnd(x)
		var w watched
		given := x
		given.Out = w.roomy(x.Out)
		word := trace.End(given)
		if w.changed() {
			t.Fatalf("R6: End(%+v) changes Out, or the room around it", x)
		}
		w.spoil()
		if word != want || trace.End(x) != want {
			t.Fatalf("R6: Out was changed behind End(%+v): %q, then %q, not %q", x, word, trace.End(x), want)
		}
	}
}

// R6: Line leaves the lists of its row, and keeps nothing of them; also where there is no line.
func TestLineLeavesItsRow(t *testing.T) {
	c := &chance{at: 13}
	for range 1000 {
		for _, r := range []api.Row{c.row(), c.bad()} {
			want, wrong := wantLine(r)
			var w watched
			line, e := trace.Line(w.row(r))
			if w.changed() {
				t.Fatalf("R6: Line(%+v) changes a list of its row, or the room around it", r)
			}
			w.spoil()
			again, f := trace.Line(r)
			if line != want || e != wrong || again != want || f != wrong {
				t.Fatalf("R6: the lists were changed behind Line(%+v): %q, %d, then %q, %d", r, line, e, again, f)
			}
		}
	}
}

// R6: Text leaves its rows, their lists and the room around them, and keeps nothing of them.
func TestTextLeavesItsRows(t *testing.T) {
	c := &chance{at: 14}
	for range 500 {
		plain := c.rows(1 + c.below(6))
		if c.below(3) == 0 {
			plain[c.below(len(plain))] = c.bad()
		}
		want, place, wrong := wantText(plain)
		var w watched
		var given []api.Row
		for _, r := range plain {
			given = append(given, w.row(r))
		}
		rows, all := roomy(given, api.Row{Sent: 77})
		were := slices.Clone(all)
		text, at, e := trace.Text(rows)
		if w.changed() || !reflect.DeepEqual(all, were) {
			t.Fatalf("R6: Text(%+v) changes what it is handed, or the room around it", plain)
		}
		w.spoil()
		spoil(all, api.Row{Move: api.Move{Kind: 77}})
		if text != want || at != place || e != wrong {
			t.Fatalf("R6: the rows were changed behind Text(%+v): %q, %d, %d", plain, text, at, e)
		}
		saysText(t, plain)
	}
}

// R6: Fact leaves Data and the room around it, and keeps nothing of it.
func TestFactLeavesData(t *testing.T) {
	c := &chance{at: 15}
	for range 2000 {
		f := c.fact()
		want := wantFact(f)
		var w watched
		given := f
		given.Data = w.roomy(f.Data)
		line := trace.Fact(given)
		if w.changed() {
			t.Fatalf("R6: Fact(%+v) changes Data, or the room around it", f)
		}
		w.spoil()
		if line != want || trace.Fact(f) != want {
			t.Fatalf("R6: Data was changed behind Fact(%+v): %q, then %q, not %q", f, line, trace.Fact(f), want)
		}
	}
}

// R6: one list may be all lists of a row.
func TestLineOfOneList(t *testing.T) {
	list := []byte{0xab, 0x0c}
	x := api.End{State: api.Running, On: true, Out: list}
	r := api.Row{Move: api.Move{Kind: api.MoveWrite, Side: h, Data: list}, Sent: -1, Host: x, Dev: x}
	want := "write 0 h xab0c -> 0 h:running,0,0,0,0,0,on:ab0c d:running,0,0,0,0,0,on:ab0c"
	if line, e := trace.Line(r); line != want || e != api.OK || !bytes.Equal(list, []byte{0xab, 0x0c}) {
		t.Errorf("R6: Line(%+v): %q, %d", r, line, e)
	}
}

// R5: lists that are nil and lists without elements are the same.
func TestNilLists(t *testing.T) {
	c := &chance{at: 16}
	for range 500 {
		r, f := c.row(), c.fact()
		r.Move = api.Move{Kind: api.MoveWrite, Side: d}
		r.Host.Out, r.Dev.Out, f.Data = nil, nil, nil
		line, e := trace.Line(r)
		told := trace.Fact(f)
		r.Move.Data, r.Host.Out, r.Dev.Out, f.Data = []byte{}, []byte{}, []byte{}, []byte{}
		if again, g := trace.Line(r); again != line || g != e || trace.Fact(f) != told {
			t.Fatalf("R5: %q and %q, with lists without elements %q and %q", line, told, again, trace.Fact(f))
		}
	}
}

// R8: the same calls are answered the same, whatever is asked between, and by several at a time.
func TestTheSameCallsAgain(t *testing.T) {
	type question struct {
		rows []api.Row
		fact api.Fact
	}
	var asked []question
	c := &chance{at: 17}
	for range 60 {
		q := question{rows: c.rows(1 + c.below(5)), fact: c.fact()}
		if c.below(3) == 0 {
			q.rows = append(q.rows, c.bad())
		}
		asked = append(asked, q)
	}
	ask := func(q question) []any {
		text, at, e := trace.Text(q.rows)
		line, f := trace.Line(q.rows[0])
		return []any{text, at, e, line, f, trace.End(q.rows[0].Host), trace.Fact(q.fact)}
	}
	var first [][]any
	for _, q := range asked {
		first = append(first, ask(q))
	}
	var all sync.WaitGroup
	for i := range 8 {
		all.Go(func() {
			for k := range asked {
				at := (k*(2*i+1) + i) % len(asked)
				if got := ask(asked[at]); !reflect.DeepEqual(got, first[at]) {
					t.Errorf("R8: of %+v: %+v, then %+v", asked[at], first[at], got)
				}
			}
		})
	}
	all.Wait()
}

// P1: any numbers and bytes.
func FuzzAnyFields(f *testing.F) {
	f.Add(int64(0), int64(0), int64(0), uint32(0), false, []byte(nil))
	f.Add(int64(4), int64(1), int64(-1), uint32(most), true, []byte{0xab, 0x0c})
	f.Add(int64(top), int64(least), int64(top), uint32(1), true, []byte("123456789"))
	f.Fuzz(func(t *testing.T, kind, side, number int64, word uint32, on bool, data []byte) {
		x := api.End{
			State: api.State(kind), Session: word, Number: word, Sent: word,
			Since: int(number), Latched: api.Errno(side), Request: on, On: on, Out: data,
		}
		saysEnd(t, x)
		r := api.Row{
			Move: api.Move{
				Kind: api.MoveKind(kind), Conn: int(word), Side: api.Side(side), Frame: int(number),
				At: int(word), Word: word, N: int(number), Hold: on, Data: data,
			},
			Code: api.Errno(number), Sent: int(number), Host: x,
		}
		saysLine(t, r)
		saysText(t, []api.Row{r, {}, r})
		fact := api.Fact{
			Kind: api.FactKind(kind), Conn: int(number), Side: api.Side(side),
			Session: word, Number: word, On: on, Code: api.Errno(number), Data: data,
		}
		saysFact(t, fact)
		if strings.Contains(trace.End(x)+trace.Fact(fact), "\n") {
			t.Fatalf("P21.1, P21.3: %+v and %+v have an end of a line in them", x, fact)
		}
	})
}
