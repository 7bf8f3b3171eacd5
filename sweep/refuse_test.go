package sweep_test

import (
	"slices"
	"testing"

	"parapet/api"
	"parapet/world"
)

// with: the net, changed so.
func with(n api.Net, change func(n *api.Net)) api.Net {
	n.Hosts, n.Devices = slices.Clone(n.Hosts), slices.Clone(n.Devices)
	change(&n)
	return n
}

// badNet is one that Check refuses.
type badNet struct {
	what string
	net  api.Net
	want api.Errno
}

// badNets: each error, at each place; and two at one time.
func badNets() []badNet {
	two := many(2)
	return []badNet{
		{"no net", api.Net{}, api.ErrRange},
		{"no connection", api.Net{MaxSession: 9}, api.ErrRange},
		{"empty lists", api.Net{Hosts: []api.Param{}, Devices: []api.Param{}, MaxSession: 9}, api.ErrRange},
		{"nine connections", many(9), api.ErrRange},
		{"a host without a device", with(two, func(n *api.Net) { n.Devices = n.Devices[:1] }), api.ErrRange},
		{"a device without a host", with(two, func(n *api.Net) { n.Hosts = n.Hosts[:1] }), api.ErrRange},
		{"no session", with(two, func(n *api.Net) { n.MaxSession = 0 }), api.ErrRange},
		{"a host without a code", with(two, func(n *api.Net) { n.Hosts[1].Code = 0 }), api.ErrParam},
		{"a device without numbers", with(two, func(n *api.Net) { n.Devices[1].Count = 0 }), api.ErrParam},
		{"a host with nine bytes", with(two, func(n *api.Net) { n.Hosts[0].Out = 9 }), api.ErrParam},
		{"a device without a watch", with(two, func(n *api.Net) { n.Devices[0].Watch = 0 }), api.ErrParam},
		{"two hosts of one code", with(two, func(n *api.Net) { n.Hosts[1].Code = 7 }), api.ErrTwice},
		{"two devices of one code", with(two, func(n *api.Net) { n.Devices[0].Code = 8 }), api.ErrTwice},
		{"no session, and a wrong set", with(two, func(n *api.Net) { n.MaxSession, n.Hosts[0].Code = 0, 0 }), api.ErrRange},
		{"a wrong set, and a code twice", with(two, func(n *api.Net) { n.Devices[0].In, n.Hosts[1].Code = 0, 7 }), api.ErrParam},
	}
}

// Nets that Check refuses, with lists that are right, and with such as would be refused.
func TestExploreOfBadNets(t *testing.T) {
	right := []api.Move{send(0), tick(0, h, 1)}
	for _, c := range badNets() {
		if e := world.Check(c.net); e != c.want {
			t.Fatalf("P17.1: Check of %s: %d, not %d", c.what, e, c.want)
		}
		for _, first := range [][]api.Move{nil, flowing(), times(256, send(0)), times(257, send(0))} {
			refuses(t, c.what, c.net, first, right, 2, c.want)
			refuses(t, c.what+", no alphabet", c.net, first, nil, 2, c.want)
			refuses(t, c.what+", a long alphabet", c.net, first, times(17, send(0)), 2, c.want)
			refuses(t, c.what+", a full one", c.net, first, times(16, send(0)), 4, c.want)
			refuses(t, c.what+", a depth of -1", c.net, first, right, -1, c.want)
			refuses(t, c.what+", a depth of 5", c.net, first, right, 5, c.want)
		}
	}
}

// Alphabets and depths that Size refuses, ahead of a beginning that is too long.
func TestExploreOfBadAlphabets(t *testing.T) {
	for _, first := range [][]api.Move{nil, flowing(), times(256, send(0)), times(257, send(0)), times(300, api.Move{})} {
		for _, alphabet := range [][]api.Move{nil, {}, times(17, send(0)), times(18, send(0)), times(300, api.Move{})} {
			for _, depth := range []int{least, -1, 0, 1, 2, 3, 4, 5, top} {
				refuses(t, "a wrong alphabet", one(), first, alphabet, depth, api.ErrRange)
			}
		}
		for _, length := range []int{1, 2, 8, 9, 16} {
			for _, depth := range []int{least, least + 1, -2, -1, 5, 6, 1 << 32, top - 1, top} {
				refuses(t, "a wrong depth", one(), first, times(length, send(0)), depth, api.ErrRange)
			}
		}
		for length := 9; length <= 16; length++ {
			refuses(t, "a full alphabet", one(), first, times(length, send(0)), 4, api.ErrFull)
		}
	}
}

// A beginning of 257 moves is too long, whatever they are; one of 256 isn't.
func TestExploreOfLongBeginnings(t *testing.T) {
	for _, length := range []int{257, 258, 512, 4096, 5000} {
		for _, m := range []api.Move{send(0), tick(0, h, 0), {}, {Kind: 99}} {
			for depth := range 5 {
				refuses(t, "a long beginning", one(), times(length, m), []api.Move{send(0), tick(0, d, 1)}, depth, api.ErrLong)
			}
		}
	}
	for _, length := range []int{255, 256} {
		for _, m := range []api.Move{send(0), tick(0, h, 0), {}, {Kind: 99}} {
			holds(t, one(), times(length, m), []api.Move{send(0), tick(0, d, 10)}, 1)
		}
	}
	// The depth isn't counted among them.
	comesTo(t, one(), times(256, tick(0, h, 0)), []api.Move{tick(0, d, 10)}, 4, api.Tally{Runs: 1, Latched: 1})
}

// The room behind a list doesn't count.
func TestExploreOfRoomyLists(t *testing.T) {
	first, alphabet := times(300, tick(0, h, 10)), times(20, tick(0, d, 10))
	comesTo(t, one(), first[:0], alphabet[:2], 2, api.Tally{Runs: 4, Latched: 4})
	comesTo(t, one(), first[:256], alphabet[:16], 3, api.Tally{Runs: 4096, Latched: 8192})
	refuses(t, "a long beginning with more behind it", one(), first[:257], alphabet[:2], 2, api.ErrLong)
	refuses(t, "no alphabet with moves behind it", one(), nil, alphabet[:0], 2, api.ErrRange)
	refuses(t, "a long alphabet with more behind it", one(), nil, alphabet[:17], 2, api.ErrRange)
}
