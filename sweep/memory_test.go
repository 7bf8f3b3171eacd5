package sweep_test

import (
	"reflect"
	"slices"
	"testing"

	"parapet/api"
	"parapet/sweep"
)

// roomy is a list of these elements, with others ahead of it and in its spare room.
func roomy[V any](list []V, other V) (part, whole []V) {
	whole = slices.Concat(slices.Repeat([]V{other}, 3), list, slices.Repeat([]V{other}, 9))
	return whole[3 : 3+len(list)], whole
}

func spoil[V any](list []V, with V) {
	for i := range list {
		list[i] = with
	}
}

// handed are arguments of Explore, and all the room that their lists stand in.
type handed struct {
	net             api.Net
	first, alphabet []api.Move
	sets            [][]api.Param
	moves           [][]api.Move
	data            [][]byte
}

// handOver: the same arguments, in lists of their own with room around them.
func handOver(n api.Net, first, alphabet []api.Move) *handed {
	x := &handed{net: n}
	x.net.Hosts, x.net.Devices = x.roomySets(n.Hosts), x.roomySets(n.Devices)
	x.first, x.alphabet = x.roomyMoves(first), x.roomyMoves(alphabet)
	return x
}

func (x *handed) roomySets(list []api.Param) []api.Param {
	part, whole := roomy(list, api.Param{Code: 77})
	x.sets = append(x.sets, whole)
	return part
}

func (x *handed) roomyMoves(list []api.Move) []api.Move {
	list = slices.Clone(list)
	for i := range list {
		part, whole := roomy(list[i].Data, 0x5a)
		x.data = append(x.data, whole)
		list[i].Data = part
	}
	part, whole := roomy(list, tick(0, h, api.MaxTicks))
	x.moves = append(x.moves, whole)
	return part
}

func (x *handed) spoil() {
	for _, list := range x.sets {
		spoil(list, api.Param{})
	}
	for _, list := range x.moves {
		spoil(list, tick(0, d, api.MaxTicks))
	}
	for _, list := range x.data {
		spoil(list, 0xee)
	}
}

// question is a call of Explore.
type question struct {
	net             api.Net
	first, alphabet []api.Move
	depth           int
}

func (q question) ask() (api.Tally, api.Errno) {
	return sweep.Explore(q.net, q.first, q.alphabet, q.depth)
}

// questions: right ones, and such that are refused.
func questions(t *testing.T, c *chance, times int) (list []question) {
	t.Helper()
	for turn := range times {
		n := c.net()
		first, frames := c.beginning(t, n, c.below(30))
		q := question{net: n, first: first, alphabet: c.alphabet(n, frames, 1+c.below(5)), depth: c.below(4)}
		switch turn % 8 {
		case 3:
			q.net.MaxSession = 0
		case 5:
			q.depth = 5
		case 7:
			q.first = slices.Repeat(append(q.first, send(0)), 257)
		}
		list = append(list, q)
	}
	return list
}

// R6: the lists, what stands in them, and the room around them are as they were.
func TestExploreLeavesWhatItIsHanded(t *testing.T) {
	for _, q := range questions(t, &chance{at: 33}, 60) {
		x, same := handOver(q.net, q.first, q.alphabet), handOver(q.net, q.first, q.alphabet)
		got, e := sweep.Explore(x.net, x.first, x.alphabet, q.depth)
		if !reflect.DeepEqual(x, same) {
			t.Fatalf("R6: Explore(%+v) changes what it is handed, or the room around it", q)
		}
		if want, f := q.ask(); got != want || e != f {
			t.Fatalf("R5, R6: with room around the lists of %+v: %+v, %d, not %+v, %d", q, got, e, want, f)
		}
	}
}

// R6: nothing of them is kept: they may be changed behind the call, and what they were is answered as ahead of it.
func TestExploreKeepsNothing(t *testing.T) {
	for _, q := range questions(t, &chance{at: 34}, 60) {
		want, wrong := q.ask()
		x := handOver(q.net, q.first, q.alphabet)
		got, e := sweep.Explore(x.net, x.first, x.alphabet, q.depth)
		x.spoil()
		if got != want || e != wrong {
			t.Fatalf("R6: Explore(%+v): %+v, %d, then %+v, %d", q, want, wrong, got, e)
		}
		if e == api.OK {
			// What the lists hold by now counts for the next call: no set is lawful any more.
			refuses(t, "sets that were changed", x.net, x.first, x.alphabet, q.depth, api.ErrParam)
		}
		if again, f := q.ask(); again != want || f != wrong {
			t.Fatalf("R6: behind changed lists Explore(%+v): %+v, %d, not %+v, %d", q, again, f, want, wrong)
		}
	}
}

// R6: the changed lists are gone by, not the ones of the call ahead.
func TestExploreOfChangedLists(t *testing.T) {
	n, first, alphabet := one(), flowing(), []api.Move{tick(0, d, 10), send(0)}
	comesTo(t, n, first, alphabet, 1, api.Tally{Runs: 2, Taken: 4, Latched: 1, On: 3})
	alphabet[0].N = 9
	comesTo(t, n, first, alphabet, 1, api.Tally{Runs: 2, Taken: 4, On: 4})
	n.Devices[0].Watch, n.Hosts[0].Watch = 9, 9
	comesTo(t, n, first, alphabet, 1, api.Tally{Runs: 2, Taken: 4, Latched: 1, On: 3})
	first[len(first)-1] = api.Move{}
	comesTo(t, n, first, alphabet, 1, api.Tally{Runs: 2, Taken: 2, Latched: 1, On: 1})
}

// R6: one list may be the beginning and the alphabet.
func TestExploreOfOneList(t *testing.T) {
	list := []api.Move{send(0), give(0, d, 0), give(0, h, 1), send(0), tick(0, d, 10)}
	were := slices.Clone(list)
	holds(t, one(), list, list, 3)
	holds(t, one(), list[:3], list[2:], 3)
	n := one()
	n.Devices = n.Hosts
	holds(t, n, list, list, 2)
	if !reflect.DeepEqual(list, were) {
		t.Errorf("R6: the list is %+v now", list)
	}
}

// R5: lists that are nil and lists without elements are the same.
func TestNilLists(t *testing.T) {
	alphabet := []api.Move{write(0, h), write(0, d), send(0), tick(0, h, 10)}
	want := holds(t, one(), nil, alphabet, 2)
	for i := range alphabet {
		alphabet[i].Data = []byte{}
	}
	comesTo(t, one(), []api.Move{}, alphabet, 2, want)
	for _, none := range [][]api.Move{nil, {}} {
		refuses(t, "no alphabet", one(), nil, none, 0, api.ErrRange)
	}
}
