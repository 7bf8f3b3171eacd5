package world_test

import (
	"bytes"
	"slices"
	"testing"

	"parapet/api"
	"parapet/world"
)

// spoil changes each byte of a list, with its room, and appends to it.
func spoil(b []byte) {
	all := b[:cap(b)]
	for i := range all {
		all[i] ^= 0xff
	}
	_ = append(b, 0xdd, 0xdd, 0xdd)
}

// spoilSets: likewise, of sets.
func spoilSets(list []api.Param) {
	all := list[:cap(list)]
	for i := range all {
		all[i] = api.Param{Code: ^all[i].Code, Out: all[i].Out + 1, In: 0, Watch: -1, Count: 1}
	}
	_ = append(list, api.Param{Code: 0xdd})
}

// spoilFacts: likewise, of facts, with the data of each.
func spoilFacts(list []api.Fact) {
	for i := range list {
		spoil(list[i].Data)
	}
	all := list[:cap(list)]
	for i := range all {
		all[i] = api.Fact{Kind: 99, Conn: -1, Side: 9, On: !all[i].On, Code: 99, Data: []byte{0xdd}}
	}
	_ = append(list, api.Fact{Kind: 98})
}

// spoilRow: all lists of a row.
func spoilRow(row api.Row) {
	spoil(row.Move.Data)
	spoil(row.Host.Out)
	spoil(row.Dev.Out)
}

// roomy is a list of these bytes, with others ahead of it and in its spare room.
func roomy(b []byte) (list, whole []byte) {
	whole = bytes.Repeat([]byte{0x5a}, len(b)+24)
	copy(whole[8:], b)
	return whole[8 : 8+len(b)], whole
}

// story: moves of all kinds, in which both connections come up and talk.
func story() []api.Move {
	var list []api.Move
	frame := 0
	for range 3 {
		for conn := range 2 {
			list = append(list, send(conn), give(conn, d, frame), give(conn, h, frame+1))
			frame += 2
		}
	}
	for n := range 3 {
		list = append(list, write(0, h, false, byte(n), 0xb1), write(0, d, n == 1, 0xb2), write(1, h, false, 0xb3), write(1, d, false, value(8, byte(n))...), write(0, d, false, 1, 2, 3, 4))
		for conn := range 2 {
			list = append(list, send(conn), give(conn, d, frame), give(conn, h, frame+1), garble(conn, d, frame, 4, 3))
			frame += 2
		}
	}
	return append(list, tick(0, d, 10), cut(0, 3), tick(1, h, 1), send(0), give(0, d, frame), ack(0, d), reset(1, h, 0), reset(1, d, 2), reset(1, d, 0), give(0, d, 0), give(0, h, 2))
}

// told: the story, with something done at each move; it answers all that was told of it.
func told(t *testing.T, between func(k *bench, m *api.Move, row api.Row)) string {
	t.Helper()
	k := with(t, seven, sets[1])
	for _, m := range story() {
		row, e := k.play(m)
		if e != api.OK {
			t.Fatalf("P17.2: Play(%+v): %d", m, e)
		}
		between(k, &m, row)
		k.ends()
	}
	k.holds()
	return snapshot(k.w)
}

// The story leads through what its tests are to try.
func TestStory(t *testing.T) {
	kinds := map[api.FactKind]int{}
	onAt := map[api.Side]int{}
	told(t, func(k *bench, _ *api.Move, row api.Row) {
		if row.Host.On {
			onAt[h]++
		}
		if row.Dev.On {
			onAt[d]++
		}
		if k.w.Moves() == len(story()) {
			for _, f := range k.w.Facts() {
				kinds[f.Kind]++
			}
		}
	})
	if len(kinds) != 8 || onAt[h] < 10 || onAt[d] < 10 {
		t.Errorf("too little is tried: facts %v, on %v", kinds, onAt)
	}
}

// A net that is changed behind New changes nothing, nor is it changed.
func TestNetIsNotKept(t *testing.T) {
	hosts, devices := make([]api.Param, 2, 8), make([]api.Param, 2, 8)
	copy(hosts[:8], sets[:])
	copy(devices[:8], sets[:])
	n := api.Net{Hosts: hosts, Devices: devices, MaxSession: 9}
	if e := world.Check(n); e != api.OK {
		t.Fatalf("P17.1: Check: %d", e)
	}
	k := of(t, n)
	if !slices.Equal(hosts[:8], sets[:]) || !slices.Equal(devices[:8], sets[:]) || n.MaxSession != 9 {
		t.Errorf("R6: New changes what it is handed: %+v", n)
	}
	spoilSets(n.Hosts)
	spoilSets(n.Devices)
	n.MaxSession = 1
	k.holds()
	was, wasDevices := slices.Clone(hosts[:8]), slices.Clone(devices[:8])
	for _, m := range story() {
		k.play(m)
	}
	k.holds()
	if !slices.Equal(hosts[:8], was) || !slices.Equal(devices[:8], wasDevices) {
		t.Errorf("R6: what New was handed is written later: %+v", hosts[:8])
	}
	// One list for both.
	both := slices.Clone(sets[:2])
	k = of(t, api.Net{Hosts: both, Devices: both, MaxSession: 9})
	net := k.w.Net()
	spoilSets(net.Hosts)
	if !slices.Equal(net.Devices, sets[:2]) {
		t.Errorf("R6: two lists of one net meet: %+v", net)
	}
	k.holds()
}

// A world that is refused keeps nothing either, and changes nothing.
func TestRefusedNetIsNotChanged(t *testing.T) {
	for _, p := range unlawful() {
		n := netOf(9, seven, p)
		world.Check(n)
		world.New(n)
		if !sameNet(n, netOf(9, seven, p)) {
			t.Errorf("R6: Check or New changes %+v", n)
		}
	}
}

// A move's data is neither changed nor kept, with the room around it.
func TestDataIsNotKept(t *testing.T) {
	for _, s := range []api.Side{h, d} {
		for n := range 10 {
			k := with(t, seven)
			k.settles(0, 3)
			list, whole := roomy(value(n, 0x30))
			was := bytes.Clone(whole)
			row, _ := k.play(write(0, s, false, list...))
			if !bytes.Equal(whole, was) {
				t.Fatalf("R6: Play changes the data % x, or the room around it", list)
			}
			spoil(whole)
			if !bytes.Equal(row.Move.Data, value(n, 0x30)) {
				t.Fatalf("R6: a row has the data that was handed in: % x", row.Move.Data)
			}
			was = bytes.Clone(whole)
			spoilRow(row)
			k.exchange(0)
			k.exchange(0)
			k.holds()
			if !bytes.Equal(whole, was) {
				t.Fatal("R6: what was handed in is written later")
			}
		}
	}
	// A kind that uses no data: its row has a copy all the same.
	for _, m := range everyKind() {
		k := twoUp(t)
		list, whole := roomy([]byte{1, 2, 3})
		was := bytes.Clone(whole)
		m.Data = list
		row, _ := k.play(m)
		spoil(row.Move.Data)
		if !bytes.Equal(whole, was) {
			t.Fatalf("R6: a row of %+v shares its data", m)
		}
	}
}

// A row that is changed changes nothing that is kept; its lists don't meet.
func TestRowsAreNew(t *testing.T) {
	plain := told(t, func(*bench, *api.Move, api.Row) {})
	if got := told(t, func(_ *bench, _ *api.Move, row api.Row) { spoilRow(row) }); got != plain {
		t.Errorf("R6: rows that are changed change %s to %s", plain, got)
	}
	told(t, func(_ *bench, m *api.Move, row api.Row) {
		data, host, dev := bytes.Clone(row.Move.Data), bytes.Clone(row.Host.Out), bytes.Clone(row.Dev.Out)
		spoil(row.Move.Data)
		if !bytes.Equal(row.Host.Out, host) || !bytes.Equal(row.Dev.Out, dev) || !bytes.Equal(m.Data, data) {
			t.Fatalf("R6: the lists of a row meet: %+v", row)
		}
		spoil(row.Host.Out)
		if !bytes.Equal(row.Dev.Out, dev) {
			t.Fatalf("R6: the lists of a row meet: %+v", row)
		}
	})
}

// Rows stay as they were, in their room too, whatever comes behind them.
func TestRowsStay(t *testing.T) {
	var rows []api.Row
	var were [][3]string
	text := func(b []byte) string { return string(b[:cap(b)]) }
	told(t, func(_ *bench, _ *api.Move, row api.Row) {
		rows = append(rows, row)
		were = append(were, [3]string{text(row.Move.Data), text(row.Host.Out), text(row.Dev.Out)})
	})
	for i, row := range rows {
		if got := [3]string{text(row.Move.Data), text(row.Host.Out), text(row.Dev.Out)}; got != were[i] {
			t.Errorf("R6: row %d changes: %x, not %x", i, got, were[i])
		}
	}
}

// What each call answers is changed and appended to: nothing that is kept changes, nor what it answered ahead of it or answers later.
func TestAnswersAreNew(t *testing.T) {
	plain := told(t, func(*bench, *api.Move, api.Row) {})
	got := told(t, func(k *bench, _ *api.Move, _ api.Row) {
		facts, net := k.w.Facts(), k.w.Net()
		memory, _ := k.w.Memory(0)
		frame, _ := k.w.Frame(k.lastFrame())
		host, dev := k.see(0, h), k.see(0, d)
		earlier := snapshot(k.w)
		laterFacts := k.w.Facts()
		was := cloneFacts(laterFacts)
		spoilFacts(facts)
		spoilSets(net.Hosts)
		spoilSets(net.Devices)
		spoil(memory)
		spoil(frame)
		spoil(host.Out)
		spoil(dev.Out)
		if !slices.EqualFunc(laterFacts, was, sameFact) {
			t.Fatalf("R6: facts that are changed change others: %+v, not %+v", laterFacts, was)
		}
		if now := snapshot(k.w); now != earlier {
			t.Fatalf("R6: answers that are changed change %s to %s", earlier, now)
		}
	})
	if got != plain {
		t.Errorf("R6: answers that are changed change %s to %s", plain, got)
	}
}

func cloneFacts(list []api.Fact) []api.Fact {
	list = slices.Clone(list)
	for i := range list {
		list[i].Data = bytes.Clone(list[i].Data)
	}
	return list
}

// No two lists of one answer meet: each fact's data is its own, and so is each list of sets.
func TestListsOfOneAnswer(t *testing.T) {
	k := with(t, seven, sets[1])
	for _, m := range story() {
		k.play(m)
	}
	facts := k.w.Facts()
	was := cloneFacts(facts)
	for i := range facts {
		spoil(facts[i].Data)
		for j := range facts {
			if j > i && !sameFact(facts[j], was[j]) {
				t.Fatalf("R6: the data of fact %d is that of fact %d", i, j)
			}
		}
	}
	net := k.w.Net()
	spoilSets(net.Hosts)
	if !slices.Equal(net.Devices, k.x.net.Devices) {
		t.Errorf("R6: two lists of a net meet")
	}
	k.holds()
}

// What was answered stays as it was, in its room too, whatever is played behind it.
func TestAnswersStay(t *testing.T) {
	k := with(t, seven, sets[1])
	type answer struct {
		facts  []api.Fact
		memory []byte
		frame  []byte
		dev    api.End
		net    api.Net
	}
	ask := func() answer {
		memory, _ := k.w.Memory(0)
		frame, _ := k.w.Frame(0)
		return answer{facts: k.w.Facts(), memory: memory, frame: frame, dev: k.see(0, d), net: k.w.Net()}
	}
	room := func(a answer) string {
		text := string(a.memory[:cap(a.memory)]) + "|" + string(a.frame[:cap(a.frame)]) + "|" + string(a.dev.Out[:cap(a.dev.Out)])
		for _, f := range a.facts[:cap(a.facts)] {
			text += "|" + string(rune(f.Kind)) + string(rune(f.Code)) + string(f.Data[:cap(f.Data)])
		}
		for _, p := range slices.Concat(a.net.Hosts[:cap(a.net.Hosts)], a.net.Devices[:cap(a.net.Devices)]) {
			text += "|" + string(rune(p.Code&0xffff))
		}
		return text
	}
	var answers []answer
	var were []string
	for _, m := range story() {
		k.play(m)
		a := ask()
		answers = append(answers, a)
		were = append(were, room(a))
	}
	for i, a := range answers {
		if got := room(a); got != were[i] {
			t.Errorf("R6: what was answered behind move %d changes: %q, not %q", i, got, were[i])
		}
	}
	k.holds()
}
