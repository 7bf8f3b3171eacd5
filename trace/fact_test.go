package trace_test

import (
	"slices"
	"strings"
	"testing"

	"parapet/api"
	"parapet/trace"
)

// full has something in each field.
var full = api.Fact{Conn: 4, Side: h, Session: 5, Number: 6, On: true, Code: 7, Data: []byte{0xab, 0x0c}}

// P21.3, written out: the chapter's examples, and a fact of each kind, what it doesn't tell set too.
func TestFactLines(t *testing.T) {
	as := func(k api.FactKind) api.Fact {
		f := full
		f.Kind = k
		return f
	}
	for _, v := range []struct {
		f    api.Fact
		want string
	}{
		{api.Fact{Kind: api.FactTick, Conn: 1, Side: d, Number: 5}, "tick 1 d 5"},
		{api.Fact{}, "? 0 ?"},
		{as(api.FactSent), "sent 4 h 5 6 xab0c"},
		{as(api.FactTaken), "taken 4 h 5 6 xab0c"},
		{as(api.FactSession), "session 4 h 5"},
		{as(api.FactFresh), "fresh 4 h"},
		{as(api.FactTick), "tick 4 h 6"},
		{as(api.FactAck), "ack 4 h"},
		{as(api.FactReset), "reset 4 h"},
		{as(api.FactOut), "out 4 h on 7 xab0c"},
		{as(0), "? 4 h"},
		{as(-1), "? 4 h"},
		{as(9), "? 4 h"},
		{as(top), "? 4 h"},
		{as(least), "? 4 h"},
		{api.Fact{Kind: api.FactSent, Side: d}, "sent 0 d 0 0 x"},
		{api.Fact{Kind: api.FactTaken, Side: d, Session: most, Number: most, Data: []byte{0}}, "taken 0 d 4294967295 4294967295 x00"},
		{api.Fact{Kind: api.FactSession, Side: d, Session: most}, "session 0 d 4294967295"},
		{api.Fact{Kind: api.FactTick, Side: d, Number: most}, "tick 0 d 4294967295"},
		{api.Fact{Kind: api.FactOut, Side: d}, "out 0 d off 0 x"},
		{api.Fact{Kind: api.FactOut, Side: d, Code: api.ErrWatchdog, Data: []byte{0, 0}}, "out 0 d off 100 x0000"},
		{api.Fact{Kind: api.FactOut, Side: h, On: true, Data: []byte{0xff}}, "out 0 h on 0 xff"},
		{api.Fact{Kind: api.FactOut, Side: h, On: true, Code: -3, Data: []byte{}}, "out 0 h on -3 x"},
		{api.Fact{Kind: api.FactFresh, Conn: -1, Side: 3}, "fresh -1 ?"},
		{api.Fact{Kind: api.FactAck, Conn: least, Side: -1}, "ack -9223372036854775808 ?"},
		{api.Fact{Kind: api.FactReset, Conn: top}, "reset 9223372036854775807 ?"},
	} {
		if got := trace.Fact(v.f); got != v.want {
			t.Errorf("P21.3: Fact(%+v): %q, not %q", v.f, got, v.want)
		}
	}
}

// Each kind with each side and connection.
func TestFactKindsAndSides(t *testing.T) {
	for _, k := range anyKinds {
		for _, s := range anySides {
			for _, conn := range anyInts {
				f := full
				f.Kind, f.Side, f.Conn = k, s, conn
				saysFact(t, f)
				saysFact(t, api.Fact{Kind: k, Side: s, Conn: conn})
			}
		}
	}
}

// Each kind with each number at its edges, on and off with each code.
func TestFactNumbers(t *testing.T) {
	for _, k := range anyKinds {
		for _, n := range anyNumbers {
			saysFact(t, api.Fact{Kind: k, Side: d, Session: n})
			saysFact(t, api.Fact{Kind: k, Side: d, Number: n})
		}
		for _, code := range anyCodes {
			saysFact(t, api.Fact{Kind: k, Side: h, Code: code})
			saysFact(t, api.Fact{Kind: k, Side: h, Code: code, On: true})
		}
	}
	c := &chance{at: 9}
	for range 10000 {
		saysFact(t, c.fact())
	}
}

// Each byte, and lists of each length, far beyond what a unit has.
func TestFactData(t *testing.T) {
	c := &chance{at: 10}
	for _, k := range []api.FactKind{api.FactSent, api.FactTaken, api.FactOut, api.FactFresh} {
		for b := range 256 {
			saysFact(t, api.Fact{Kind: k, Side: d, Data: []byte{byte(b)}})
		}
		for _, length := range []int{0, 1, 2, 7, 8, 9, 16, 255, 256, 1000, 1 << 16} {
			for _, data := range [][]byte{make([]byte, length), slices.Repeat([]byte{0xff}, length), c.bytes(length)} {
				saysFact(t, api.Fact{Kind: k, Side: d, Data: data})
				saysFact(t, api.Fact{Kind: k, Side: h, Data: data, On: true, Code: api.ErrResync})
			}
		}
	}
}

// What a kind doesn't tell leaves no mark.
func TestFactUntold(t *testing.T) {
	told := map[api.FactKind]string{1: "session number data", 2: "session number data", 3: "session", 5: "number", 8: "on code data"}
	c := &chance{at: 11}
	for range 10000 {
		f := c.fact()
		bare := api.Fact{Kind: f.Kind, Conn: f.Conn, Side: f.Side}
		if strings.Contains(told[f.Kind], "session") {
			bare.Session = f.Session
		}
		if strings.Contains(told[f.Kind], "number") {
			bare.Number = f.Number
		}
		if strings.Contains(told[f.Kind], "on code") {
			bare.On, bare.Code = f.On, f.Code
		}
		if strings.Contains(told[f.Kind], "data") {
			bare.Data = f.Data
		}
		if got, want := trace.Fact(f), trace.Fact(bare); got != want {
			t.Fatalf("P21.3: Fact(%+v): %q, and without what its kind doesn't tell %q", f, got, want)
		}
	}
}
