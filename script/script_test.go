package script_test

import (
	"fmt"
	"slices"
	"strings"
	"testing"

	"parapet/api"
	"parapet/script"
)

// The chapter's examples.
func TestExamples(t *testing.T) {
	m := api.Move{Kind: api.MoveWrite, Conn: 1, Side: d, Data: []byte{0xab, 0}, Hold: true}
	if line, e := script.Move(m); line != "write 1 d xab00 hold" || e != api.OK {
		t.Errorf("P20.1: Move(%+v): %q, %d", m, line, e)
	}
	m, e := script.Read([]string{"tick", "0", "h", "5"})
	if !sameMove(m, api.Move{Kind: api.MoveTick, Side: h, N: 5}) || e != api.OK {
		t.Errorf("P20.3: Read of tick 0 h 5: %+v, %d", m, e)
	}
	for _, v := range []struct {
		line string
		want api.Errno
	}{
		{"tick 0 h", api.ErrFew}, {"tick 0 h 5 6", api.ErrMany},
		{"tick 0 q 5", api.ErrValue}, {"tick 0 h 05", api.ErrValue},
		{"write 0 h xAB", api.ErrValue}, {"write 0 h x0", api.ErrValue},
		{"jump", api.ErrWord},
	} {
		if m, e := script.Read(strings.Fields(v.line)); !sameMove(m, api.Move{}) || e != v.want {
			t.Errorf("P20.3: Read of %s: %+v, %d, not %d", v.line, m, e, v.want)
		}
	}
	got := parse("net 9\nhost 7 2 1 10 100\n\nsend 0 # now\nnet 3")
	if !got.same(parsed{at: 5, e: api.ErrWord}) {
		t.Errorf("P20.4: the chapter's text: %+v", got)
	}
}

// The document's examples of the whole, where they are lines of a script.
func TestLinesOfTheWhole(t *testing.T) {
	got := parse("net 9\nhost 7 2 1 10 100\ndevice 7 2 1 10 100\n" +
		"write 0 h xaabb\nwrite 0 d xcc\ntick 0 d 10\nack 0 d\nreset 0 h 0\nreset 0 d 0\ncut 0 2\n")
	want := parsed{
		net: api.Net{Hosts: []api.Param{seven}, Devices: []api.Param{seven}, MaxSession: 9},
		moves: []api.Move{
			{Kind: api.MoveWrite, Side: h, Data: []byte{0xaa, 0xbb}},
			{Kind: api.MoveWrite, Side: d, Data: []byte{0xcc}},
			{Kind: api.MoveTick, Side: d, N: 10},
			{Kind: api.MoveAck, Side: d},
			{Kind: api.MoveReset, Side: h},
			{Kind: api.MoveReset, Side: d},
			{Kind: api.MoveCut, N: 2},
		},
	}
	if !got.same(want) {
		t.Errorf("P20.4: %+v, not %+v", got, want)
	}
}

// Five numbers, whatever they are.
func TestParam(t *testing.T) {
	for _, v := range []struct {
		set  api.Param
		want string
	}{
		{seven, "7 2 1 10 100"},
		{api.Param{}, "0 0 0 0 0"},
		{api.Param{Code: 1, Out: 2, In: 3, Watch: 4, Count: 5}, "1 2 3 4 5"},
		{api.Param{Code: most, Out: top, In: top, Watch: top, Count: most}, "4294967295 9223372036854775807 9223372036854775807 9223372036854775807 4294967295"},
		{api.Param{Out: least, In: least, Watch: least}, "0 -9223372036854775808 -9223372036854775808 -9223372036854775808 0"},
		{api.Param{Code: 1 << 31, Out: -1, In: -20, Watch: -300, Count: 1<<31 - 1}, "2147483648 -1 -20 -300 2147483647"},
	} {
		if got := script.Param(v.set); got != v.want {
			t.Errorf("P20.1: Param(%+v): %q, not %q", v.set, got, v.want)
		}
	}
	ints := []int{least, least + 1, -most - 1, -most, -10, -1, 0, 1, 9, 10, most, most + 1, top - 1, top}
	words := []uint32{0, 1, 9, 10, 1<<31 - 1, 1 << 31, most - 1, most}
	c := &chance{at: 1}
	for range 2000 {
		p := api.Param{Code: one(c, words), Out: one(c, ints), In: one(c, ints), Watch: one(c, ints), Count: one(c, words)}
		if got, want := script.Param(p), fmt.Sprint(p.Code, p.Out, p.In, p.Watch, p.Count); got != want {
			t.Fatalf("P20.1: Param(%+v): %q, not %q", p, got, want)
		}
	}
}

// A set's words are read again by Head, if none is below 0.
func TestParamIsRead(t *testing.T) {
	c := &chance{at: 2}
	for range 500 {
		p := api.Param{Code: uint32(c.number()), Out: c.number(), In: c.number(), Watch: c.number(), Count: uint32(c.number())}
		words := append([]string{"host"}, strings.Split(script.Param(p), " ")...)
		if n, is, e := script.Head(api.Net{}, words); !is || e != api.OK || !slices.Equal(n.Hosts, []api.Param{p}) {
			t.Fatalf("P20.3: Head of %q: %+v, %v, %d", words, n, is, e)
		}
	}
}
