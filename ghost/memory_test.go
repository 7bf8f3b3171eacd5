package ghost_test

import (
	"bytes"
	"slices"
	"testing"

	"parapet/api"
	"parapet/ghost"
)

// spoil changes each byte of a list, with its room, and appends to it.
func spoil(b []byte) {
	all := b[:cap(b)]
	for i := range all {
		all[i] ^= 0xff
	}
	_ = append(b, 0xdd, 0xdd, 0xdd)
}

// roomy is a list of these bytes, with others ahead of it and in its spare room.
func roomy(b []byte) (list, whole []byte) {
	whole = bytes.Repeat([]byte{0x5a}, len(b)+24)
	copy(whole[8:], b)
	return whole[8 : 8+len(b)], whole
}

func sameFact(a, b api.Fact) bool {
	return a.Kind == b.Kind && a.Conn == b.Conn && a.Side == b.Side && a.Session == b.Session && a.Number == b.Number &&
		a.On == b.On && a.Code == b.Code && bytes.Equal(a.Data, b.Data)
}

func cloneFacts(list []api.Fact) []api.Fact {
	list = slices.Clone(list)
	for i := range list {
		list[i].Data = bytes.Clone(list[i].Data)
	}
	return list
}

// story: facts of all kinds, good ones, at whose end both ends show what they took.
func story() []api.Fact {
	return []api.Fact{
		session(1), off(h, 0, 0), off(d, 0, 0, 0), sent(h, 1, 1, 5, 6), sent(d, 1, 1, 7),
		fresh(d), taken(d, 1, 1, 5, 6), on(d, 0, 5, 6), fresh(h), taken(h, 1, 1, 7), on(h, 0, 7),
		tick(d, 10), off(d, 100, 0, 0), sent(h, 1, 2, 8, 9), fresh(d), taken(d, 1, 2, 8, 9), off(d, 100, 0, 0),
		ack(d), off(d, 0, 0, 0), reset(h), off(h, 0, 0), sent(h, 1, 3, 1, 2), sent(d, 1, 2, 3),
		fresh(d), taken(d, 1, 3, 1, 2), on(d, 0, 1, 2), fresh(h), taken(h, 1, 2, 3), on(h, 0, 3),
	}
}

// What a fact held when it was seen counts, whatever becomes of its data behind the call; and the call changes nothing.
func TestFactsAreNotKept(t *testing.T) {
	good(t, one(), story()...)
	j := ghost.New(one())
	for i, f := range story() {
		list, whole := roomy(f.Data)
		was := bytes.Clone(whole)
		f.Data = list
		if got := j.See(f); got != (api.Verdict{}) {
			t.Fatalf("R6: fact %d, behind others whose data was changed: %+v", i, got)
		}
		if !bytes.Equal(whole, was) {
			t.Fatalf("R6: See changes the data of fact %d, or the room around it", i)
		}
		spoil(whole)
	}
	// What it was changed to was not sent, nor taken.
	for _, c := range []struct {
		rule  int
		ahead []api.Fact
		last  api.Fact
	}{
		{2, []api.Fact{session(1), sent(h, 1, 1, 5)}, taken(d, 1, 1, 5^0xff)},
		{4, []api.Fact{session(1), sent(h, 1, 1, 5), taken(d, 1, 1, 5)}, on(d, 0, 5^0xff)},
		{2, []api.Fact{session(1), sent(d, 1, 1, 5)}, taken(h, 1, 1, 5^0xff)},
		{4, []api.Fact{session(1), sent(d, 1, 1, 5), taken(h, 1, 1, 5)}, on(h, 0, 5^0xff)},
	} {
		j := ghost.New(one())
		for _, f := range c.ahead {
			j.See(f)
			spoil(f.Data)
		}
		if got := j.See(c.last); got != (api.Verdict{Rule: c.rule, At: len(c.ahead)}) {
			t.Errorf("R6: %+v, with the data of those ahead of it changed: %+v", c.last, got)
		}
	}
}

// One list of bytes, used for each fact anew.
func TestOneListForAllFacts(t *testing.T) {
	j := ghost.New(one())
	buffer := make([]byte, 8)
	for i, f := range story() {
		f.Data = buffer[:copy(buffer, f.Data)]
		if got := j.See(f); got != (api.Verdict{}) {
			t.Fatalf("R6: fact %d: %+v", i, got)
		}
		clear(buffer)
	}
}

// A net that is changed behind New changes no watch and no connection, nor is it changed.
func TestNetIsNotKept(t *testing.T) {
	hosts, devices := make([]api.Param, 1, 4), make([]api.Param, 1, 4)
	hosts[0], devices[0] = seven, seven
	n := api.Net{Hosts: hosts, Devices: devices, MaxSession: 9}
	j := ghost.New(n)
	facts := []api.Fact{tick(h, 9), tick(d, 9), off(h, 0), off(d, 0), fresh(h), fresh(d), tick(h, 5), off(h, 0), off(d, 0)}
	for range 2 {
		for i, f := range facts {
			if got := j.See(f); got != (api.Verdict{}) {
				t.Fatalf("R6: fact %d, behind changes of the net: %+v", i, got)
			}
		}
		j.See(fresh(h))
		hosts[0].Watch, devices[0].Watch = 1, 1
		_ = append(hosts, seven)
		_ = append(devices, seven)
		n.Hosts, n.Devices = n.Hosts[:0], n.Devices[:0]
	}
	hosts[0], devices[0] = seven, seven
	whole := [2][]api.Param{slices.Clone(hosts[:4]), slices.Clone(devices[:4])}
	n = api.Net{Hosts: hosts, Devices: devices, MaxSession: 9}
	ghost.Check(n, story())
	j = ghost.New(n)
	for _, f := range story() {
		j.See(f)
	}
	if !slices.Equal(hosts[:4], whole[0]) || !slices.Equal(devices[:4], whole[1]) {
		t.Errorf("R6: a net is changed: %+v, %+v", hosts[:4], devices[:4])
	}
}

// The list of a Check is as it was, its room too, and what lies inside.
func TestCheckChangesNothing(t *testing.T) {
	for _, facts := range append([][]api.Fact{story(), alphabet()}, broken()[3], broken()[8]) {
		list := make([]api.Fact, len(facts), len(facts)+8)
		copy(list, facts)
		for i := range list[:cap(list)] {
			if i >= len(facts) {
				list[:cap(list)][i] = fresh(d)
			}
		}
		var wholes, were [][]byte
		for i := range list {
			var whole []byte
			list[i].Data, whole = roomy(list[i].Data)
			wholes, were = append(wholes, whole), append(were, bytes.Clone(whole))
		}
		was := cloneFacts(list[:cap(list)])
		first := ghost.Check(one(), list)
		if !slices.EqualFunc(list[:cap(list)], was, sameFact) || !slices.EqualFunc(wholes, were, bytes.Equal) {
			t.Errorf("R6: Check changes %+v to %+v", was, list[:cap(list)])
		}
		if again := ghost.Check(one(), list); again != first {
			t.Errorf("R8: Check of the same facts: %+v, then %+v", first, again)
		}
	}
}

// Two judges in turns, of like and of unlike nets: each goes by what it has seen itself.
func TestTwoInTurns(t *testing.T) {
	by := &chance{at: 3}
	apart := 0
	for range 300 {
		nets := []api.Net{two(), two()}
		nets[1].Hosts[0].Watch, nets[1].Devices[1].Watch = 2, 3
		nets = nets[by.below(2):]
		nets = append(nets, two())
		x := []*twin{newTwin(nets[0]), newTwin(nets[1])}
		j := []*ghost.Judge{ghost.New(nets[0]), ghost.New(nets[1])}
		for range 60 {
			k := by.below(2)
			f := by.likely(x[k].history)
			if x[k].rule(f) != 0 && by.below(20) > 0 {
				continue
			}
			want := x[k].see(f)
			if got := j[k].See(f); got != want {
				t.Fatalf("R8: %+v at judge %d: %+v, not %+v", f, k, got, want)
			}
			if got := j[1-k].Verdict(); got != x[1-k].said {
				t.Fatalf("R8: %+v at judge %d makes the other say %+v, not %+v", f, k, got, x[1-k].said)
			}
		}
		if x[0].said != x[1].said {
			apart++
		}
	}
	if apart < 100 {
		t.Errorf("too little was tried: %d pairs with unlike verdicts", apart)
	}
}

// The same facts again are judged the same, by another judge, by Check, and behind other judges' work.
func TestTheSameAgain(t *testing.T) {
	for seed := range 200 {
		by := chance{uint64(seed) + 99}
		var facts []api.Fact
		for range 40 {
			facts = append(facts, by.likely(facts))
		}
		facts = append(story(), facts...)
		n := two()
		n.Hosts[0].Watch = 10 + by.below(5)
		want := ghost.Check(n, facts)
		for range 3 {
			j := ghost.New(n)
			for i, f := range facts {
				got := j.See(f)
				if beginning := ghost.Check(n, facts[:i+1]); got != beginning {
					t.Fatalf("R8: one by one %+v, by Check %+v: %+v", got, beginning, facts[:i+1])
				}
			}
			if j.Verdict() != want || ghost.Check(n, facts) != want {
				t.Fatalf("R8: %+v, then %+v", want, j.Verdict())
			}
		}
		if want.Rule == 0 {
			t.Fatalf("too little was tried: %+v is good", facts)
		}
	}
}
