package script_test

import (
	"slices"
	"strings"
	"testing"

	"parapet/api"
	"parapet/script"
)

// nets to which a line may come.
func nets() []api.Net {
	nine := seven
	nine.Code = 9
	return []api.Net{
		{},
		{MaxSession: most},
		{Hosts: []api.Param{seven}, MaxSession: 9},
		{Devices: []api.Param{seven, nine}},
		{Hosts: []api.Param{nine, seven}, Devices: []api.Param{{}, {Out: -1, In: least, Watch: top}}, MaxSession: 1},
		{Hosts: slices.Repeat([]api.Param{seven}, 20), Devices: slices.Repeat([]api.Param{nine}, 20), MaxSession: 5},
	}
}

func TestHead(t *testing.T) {
	was := api.Net{Hosts: []api.Param{seven}, Devices: []api.Param{{Code: 8}}, MaxSession: 9}
	some := api.Param{Code: 1, Out: 2, In: 3, Watch: 4, Count: 5}
	greatest := api.Param{Code: most, Out: most, In: most, Watch: most, Count: most}
	for _, v := range []struct {
		line string
		want api.Net
		is   bool
		e    api.Errno
	}{
		{"", was, false, api.OK},
		{"send 0", was, false, api.OK},
		{"jump", was, false, api.OK},
		{"Net 3", was, false, api.OK},
		{"hosts 1 2 3 4 5", was, false, api.OK},
		{"net 3", api.Net{Hosts: was.Hosts, Devices: was.Devices, MaxSession: 3}, true, api.OK},
		{"net 0", api.Net{Hosts: was.Hosts, Devices: was.Devices}, true, api.OK},
		{"host 1 2 3 4 5", api.Net{Hosts: []api.Param{seven, some}, Devices: was.Devices, MaxSession: 9}, true, api.OK},
		{"device 1 2 3 4 5", api.Net{Hosts: was.Hosts, Devices: []api.Param{{Code: 8}, some}, MaxSession: 9}, true, api.OK},
		// Whether a set is lawful isn't asked.
		{"host 0 0 0 0 0", api.Net{Hosts: []api.Param{seven, {}}, Devices: was.Devices, MaxSession: 9}, true, api.OK},
		{"device 4294967295 4294967295 4294967295 4294967295 4294967295", api.Net{Hosts: was.Hosts, Devices: []api.Param{{Code: 8}, greatest}, MaxSession: 9}, true, api.OK},
		{"host 7 2 1 10 100", api.Net{Hosts: []api.Param{seven, seven}, Devices: was.Devices, MaxSession: 9}, true, api.OK},
		{"net", was, true, api.ErrFew},
		{"net 1 2", was, true, api.ErrMany},
		{"net x 2", was, true, api.ErrMany},
		{"net x", was, true, api.ErrValue},
		{"net 4294967296", was, true, api.ErrValue},
		{"host", was, true, api.ErrFew},
		{"host 1 2 3 4", was, true, api.ErrFew},
		{"host 1 2 3 4 5 6", was, true, api.ErrMany},
		{"host 1 2 3 4 05", was, true, api.ErrValue},
		{"device q 2 3 4", was, true, api.ErrFew},
		{"device q 2 3 4 5 6", was, true, api.ErrMany},
		{"device -1 2 3 4 5", was, true, api.ErrValue},
		{"device 1 2 3 4 5 hold", was, true, api.ErrMany},
	} {
		if n, is, e := script.Head(was, strings.Fields(v.line)); !sameNet(n, v.want) || is != v.is || e != v.e {
			t.Errorf("P20.3: Head of %q: %+v, %v, %d, not %+v, %v, %d", v.line, n, is, e, v.want, v.is, v.e)
		}
	}
}

// First words that are none of the three: the net as it was, and no error, whatever stands behind them.
func TestHeadOfOthers(t *testing.T) {
	for _, n := range nets() {
		saysHead(t, n)
		for _, first := range []string{"", " ", "Net", "NET", "nets", "ne", "Host", "HOST", "hosts", "hos", "Device", "DEVICE", "devices", "devic", "net ", " host", "device\n", "#", "write", "send", "deliver", "garble", "tick", "ack", "reset", "cut", "0", "\xff"} {
			for count := range 8 {
				saysHead(t, n, append([]string{first}, slices.Repeat([]string{"1"}, count)...)...)
			}
		}
	}
}

// How many words there are is told ahead of what they are.
func TestHeadHowMany(t *testing.T) {
	for _, n := range nets() {
		for _, first := range []string{"net", "host", "device"} {
			for count := range 9 {
				for _, word := range []string{"1", "wrong", "", "hold"} {
					saysHead(t, n, append([]string{first}, slices.Repeat([]string{word}, count)...)...)
				}
			}
		}
	}
}

// At each place each odd word.
func TestHeadValues(t *testing.T) {
	for _, n := range nets()[:4] {
		for _, word := range oddWords {
			saysHead(t, n, "net", word)
			for _, first := range []string{"host", "device"} {
				for i := range 5 {
					words := []string{first, "1", "2", "3", "4", "5"}
					words[1+i] = word
					saysHead(t, n, words...)
					words[1+(i+2)%5] = "wrong"
					saysHead(t, n, words...)
				}
			}
		}
	}
}

// Line by line: each net is that of the line ahead of it, with one thing more.
func TestHeadLineByLine(t *testing.T) {
	c := &chance{at: 7}
	for range 40 {
		n := api.Net{}
		for range 40 {
			words := strings.Fields(one(c, []string{"net", "host", "device"}) + " " + script.Param(c.set()))
			if words[0] == "net" {
				words = words[:2]
			}
			saysHead(t, n, words...)
			n, _, _ = script.Head(n, words)
		}
	}
}
