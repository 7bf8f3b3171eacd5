package trace_test

import (
	"fmt"
	"slices"
	"strings"
	"testing"

	"parapet/api"
	"parapet/trace"
)

// P21.1, written out: the chapter's examples, and others beside them.
func TestEndWords(t *testing.T) {
	for _, v := range []struct {
		x    api.End
		want string
	}{
		{api.End{State: api.Running, Session: 3, Number: 9, Sent: 9, Since: 2, On: true, Out: []byte{0xab, 0x0c}}, "running,3,9,9,2,0,on:ab0c"},
		{api.End{}, "?0,0,0,0,0,0,off"},
		{api.End{State: api.Idle}, "idle,0,0,0,0,0,off"},
		{api.End{State: api.Offered, Session: 1}, "offered,1,0,0,0,0,off"},
		{api.End{State: api.Agreed, Session: 2, Since: 4}, "agreed,2,0,0,4,0,off"},
		{api.End{State: api.Running, Session: 1, Number: 2, Sent: 3, Since: 10, Latched: api.ErrWatchdog, Request: true, Out: []byte{0, 0}}, "running,1,2,3,10,100,ask,off"},
		{api.End{State: api.Done, Session: most, Number: most, Sent: most, Latched: api.ErrExhausted}, "done,4294967295,4294967295,4294967295,0,80,off"},
		{api.End{State: api.Down, Latched: api.ErrResync}, "down,0,0,0,0,131,off"},
		{api.End{State: 7}, "?7,0,0,0,0,0,off"},
		{api.End{State: -1}, "?-1,0,0,0,0,0,off"},
		{api.End{State: top}, "?9223372036854775807,0,0,0,0,0,off"},
		{api.End{State: least}, "?-9223372036854775808,0,0,0,0,0,off"},
		{api.End{State: api.Idle, Since: -1, Latched: -20}, "idle,0,0,0,-1,-20,off"},
		{api.End{State: api.Idle, Since: top, Latched: least}, "idle,0,0,0,9223372036854775807,-9223372036854775808,off"},
		{api.End{State: api.Idle, Since: least, Latched: top}, "idle,0,0,0,-9223372036854775808,9223372036854775807,off"},
		{api.End{State: api.Idle, On: true}, "idle,0,0,0,0,0,on:"},
		{api.End{State: api.Idle, On: true, Out: []byte{}}, "idle,0,0,0,0,0,on:"},
		{api.End{State: api.Idle, Request: true, On: true, Out: []byte{0}}, "idle,0,0,0,0,0,ask,on:00"},
		{api.End{State: api.Idle, On: true, Out: []byte{0, 1, 0x0f, 0x10, 0x9a, 0xa9, 0xf0, 0xff}}, "idle,0,0,0,0,0,on:00010f109aa9f0ff"},
		{api.End{State: api.Idle, Out: []byte{0, 1, 0x0f, 0x10, 0x9a, 0xa9, 0xf0, 0xff}}, "idle,0,0,0,0,0,off"},
	} {
		if got := trace.End(v.x); got != v.want {
			t.Errorf("P21.1: End(%+v): %q, not %q", v.x, got, v.want)
		}
	}
}

// Each state with and without Request, with and without On.
func TestEndStates(t *testing.T) {
	for _, s := range anyStates {
		for _, ask := range []bool{false, true} {
			for _, on := range []bool{false, true} {
				saysEnd(t, api.End{State: s, Session: 1, Number: 2, Sent: 3, Since: 4, Latched: 5, Request: ask, On: on, Out: []byte{0x5a}})
			}
		}
	}
}

// Each number at each edge, alone and beside the others.
func TestEndNumbers(t *testing.T) {
	for _, n := range anyNumbers {
		saysEnd(t, api.End{State: api.Running, Session: n})
		saysEnd(t, api.End{State: api.Running, Number: n})
		saysEnd(t, api.End{State: api.Running, Sent: n})
	}
	for _, n := range anyInts {
		saysEnd(t, api.End{State: api.Running, Since: n})
		saysEnd(t, api.End{State: api.Running, Latched: api.Errno(n)})
	}
	c := &chance{at: 1}
	for range 5000 {
		saysEnd(t, c.end())
	}
}

// Each byte, lists of each length, far beyond what a value has, on and off.
func TestEndOut(t *testing.T) {
	for b := range 256 {
		saysEnd(t, api.End{State: api.Running, On: true, Out: []byte{byte(b)}})
		saysEnd(t, api.End{State: api.Running, Out: []byte{byte(b)}})
	}
	c := &chance{at: 2}
	for _, length := range []int{0, 1, 2, 7, 8, 9, 16, 255, 256, 1000, 1 << 16} {
		for _, out := range [][]byte{make([]byte, length), slices.Repeat([]byte{0xff}, length), c.bytes(length)} {
			saysEnd(t, api.End{State: api.Running, On: true, Out: out})
			saysEnd(t, api.End{State: api.Running, Request: true, On: true, Out: out})
			saysEnd(t, api.End{State: api.Running, Out: out})
			if got := trace.End(api.End{On: true, Out: out}); len(got) != len("?0,0,0,0,0,0,on:")+2*length {
				t.Fatalf("P21.1: an Out of %d bytes: a word of %d", length, len(got))
			}
		}
	}
}

// It is one word, whatever the end is, and all that it tells is found in it again.
func TestEndIsOneWord(t *testing.T) {
	c := &chance{at: 3}
	for range 5000 {
		x := c.end()
		word := trace.End(x)
		if strings.ContainsAny(word, " \t\r\n#") {
			t.Fatalf("P21.1: End(%+v): %q is no word", x, word)
		}
		parts := strings.Split(word, ",")
		if len(parts) != map[bool]int{false: 7, true: 8}[x.Request] || x.Request != (parts[6] == "ask") {
			t.Fatalf("P21.1: End(%+v): %q", x, word)
		}
		last := parts[len(parts)-1]
		if x.On != (last != "off") || x.On && last != fmt.Sprintf("on:%x", x.Out) {
			t.Fatalf("P21.1: End(%+v): %q", x, word)
		}
		numbers := fmt.Sprint(x.Session, x.Number, x.Sent, x.Since, int(x.Latched))
		if strings.Join(parts[1:6], " ") != numbers {
			t.Fatalf("P21.1: End(%+v): %q", x, word)
		}
	}
}
