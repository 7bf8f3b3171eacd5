package script_test

import (
	"bytes"
	"reflect"
	"slices"
	"strings"
	"sync"
	"testing"

	"parapet/api"
	"parapet/script"
)

// roomy is a list of these elements, with others ahead of it and in its spare room.
func roomy[V any](list []V, other V) (part, whole []V) {
	whole = slices.Concat(slices.Repeat([]V{other}, 3), list, slices.Repeat([]V{other}, 9))
	return whole[3 : 3+len(list)], whole
}

// spoil overwrites a list and all of its spare room, and appends to it.
func spoil[V any](list []V, with V) {
	all := list[:cap(list)]
	for i := range all {
		all[i] = with
	}
	_ = append(list, with, with)
}

var spoilt = api.Param{Code: 0xeeeeeeee, Out: -5, In: -6, Watch: -7, Count: 0xdddddddd}

// lines that Head takes, refuses, and passes over.
var headLines = []string{"", "net 3", "host 1 2 3 4 5", "device 1 2 3 4 5", "net", "host 1 2", "device 1 2 3 4 5 6", "host 1 2 3 4 q", "net q", "send 0", "jump"}

// The net and the words that Head is handed stay as they were, spare room too.
func TestHeadLeavesItsNet(t *testing.T) {
	for _, n := range nets() {
		for _, line := range headLines {
			given := n
			var hosts, devices []api.Param
			given.Hosts, hosts = roomy(n.Hosts, spoilt)
			given.Devices, devices = roomy(n.Devices, spoilt)
			words, all := roomy(strings.Fields(line), "spare")
			hostsWere, devicesWere, allWere := slices.Clone(hosts), slices.Clone(devices), slices.Clone(all)
			got, _, _ := script.Head(given, words)
			if !slices.Equal(hosts, hostsWere) || !slices.Equal(devices, devicesWere) || !slices.Equal(all, allWere) {
				t.Fatalf("R6: Head of %q changes what it is handed, or the room around it", line)
			}
			// What is handed in isn't kept, nor is it the answer.
			want, _, _ := wantHead(n, strings.Fields(line))
			spoil(hosts, spoilt)
			spoil(devices, spoilt)
			spoil(all, "spoilt")
			if !sameNet(got, want) {
				t.Fatalf("R6: behind Head of %q its net is changed: %+v, not %+v", line, got, want)
			}
		}
	}
}

// The net that Head answers is new memory, and its two lists share none.
func TestHeadAnswersNewLists(t *testing.T) {
	for _, n := range nets() {
		for _, line := range headLines {
			given := api.Net{Hosts: slices.Clone(n.Hosts), Devices: slices.Clone(n.Devices), MaxSession: n.MaxSession}
			want, _, _ := wantHead(n, strings.Fields(line))
			got, _, _ := script.Head(given, strings.Fields(line))
			spoil(got.Hosts, spoilt)
			if !slices.Equal(got.Devices, want.Devices) || !sameNet(given, n) {
				t.Fatalf("R6: Head of %q: its hosts changed, %+v, and of what was handed in %+v", line, got, given)
			}
			spoil(got.Devices, spoilt)
			if !sameNet(given, n) {
				t.Fatalf("R6: Head of %q: its devices changed, and of what was handed in %+v", line, given)
			}
		}
	}
	// One list as both.
	list := make([]api.Param, 1, 10)
	list[0] = seven
	for _, line := range headLines {
		got, _, _ := script.Head(api.Net{Hosts: list, Devices: list}, strings.Fields(line))
		want, _, _ := wantHead(api.Net{Hosts: []api.Param{seven}, Devices: []api.Param{seven}}, strings.Fields(line))
		if !sameNet(got, want) || !slices.Equal(list[:10], append([]api.Param{seven}, make([]api.Param, 9)...)) {
			t.Fatalf("R6: Head of %q with one list as both: %+v, not %+v", line, got, want)
		}
		spoil(got.Hosts, spoilt)
		if !slices.Equal(got.Devices, want.Devices) {
			t.Fatalf("R6: Head of %q: both lists are one: %+v", line, got)
		}
	}
}

// Two nets from one are each for itself.
func TestHeadTwice(t *testing.T) {
	base := api.Net{}
	for range 5 {
		base, _, _ = script.Head(base, []string{"host", "7", "2", "1", "10", "100"})
		base, _, _ = script.Head(base, []string{"device", "7", "2", "1", "10", "100"})
		a, _, _ := script.Head(base, []string{"host", "1", "1", "1", "1", "1"})
		b, _, _ := script.Head(base, []string{"host", "2", "2", "2", "2", "2"})
		c, _, _ := script.Head(base, []string{"device", "3", "3", "3", "3", "3"})
		k := len(base.Hosts)
		if a.Hosts[k].Code != 1 || b.Hosts[k].Code != 2 || c.Devices[k].Code != 3 || len(c.Hosts) != k {
			t.Fatalf("R6: three nets from one: %+v, %+v, %+v", a, b, c)
		}
	}
}

// Move and Print leave the moves, their data and the sets as they were.
func TestPrintLeavesItsLists(t *testing.T) {
	c := &chance{at: 14}
	for range 300 {
		n, plain := c.net(), c.moves(1+c.below(10))
		if c.below(4) == 0 {
			plain[c.below(len(plain))] = api.Move{Kind: api.MoveWrite, Side: h, Data: c.bytes(9)}
		}
		if c.below(4) == 0 {
			n.Devices = append(n.Devices, api.Param{})
		}
		given := n
		var hosts, devices []api.Param
		given.Hosts, hosts = roomy(n.Hosts, spoilt)
		given.Devices, devices = roomy(n.Devices, spoilt)
		moves, all := roomy(plain, api.Move{Kind: 77})
		var data, dataWere [][]byte
		for i := range moves {
			var whole []byte
			moves[i].Data, whole = roomy(moves[i].Data, 0x5a)
			data, dataWere = append(data, whole), append(dataWere, bytes.Clone(whole))
		}
		hostsWere, devicesWere, allWere := slices.Clone(hosts), slices.Clone(devices), slices.Clone(all)
		text, e := script.Print(given, moves)
		for i := range moves {
			script.Move(moves[i])
			if !bytes.Equal(data[i], dataWere[i]) {
				t.Fatalf("R6: the data of %+v are changed, or the room around them", moves[i])
			}
		}
		if !slices.Equal(hosts, hostsWere) || !slices.Equal(devices, devicesWere) || !reflect.DeepEqual(all, allWere) {
			t.Fatal("R6: Print changes what it is handed, or the room around it")
		}
		spoil(hosts, spoilt)
		spoil(devices, spoilt)
		spoil(all, api.Move{})
		if again, f := script.Print(n, plain); again != text || f != e {
			t.Fatalf("R8: Print again, its lists changed between: %q, %d, not %q, %d", again, f, text, e)
		}
	}
}

// Read leaves its words, and keeps nothing of them; the data that it answers are new.
func TestReadLeavesItsWords(t *testing.T) {
	for _, line := range []string{"write 1 d xab00 hold", "write 0 h x", "write 0 h x0102030405060708", "write 0 h xAB", "send 0", "send 0 1", "tick", "jump 1", "garble 0 d 1 2 3", ""} {
		words, all := roomy(strings.Fields(line), "spare")
		was := slices.Clone(all)
		m, e := script.Read(words)
		if !slices.Equal(all, was) {
			t.Fatalf("R6: Read of %s changes its words, or the room around them", line)
		}
		spoil(all, "spoilt")
		want, wrong := wantRead(strings.Fields(line))
		if !sameMove(m, want) || e != wrong {
			t.Fatalf("R6: behind Read of %s its words are changed: %+v, %d", line, m, e)
		}
		other, _ := script.Read(strings.Fields(line))
		spoil(m.Data, 0xee)
		later, _ := script.Read(strings.Fields(line))
		if !sameMove(other, want) || !sameMove(later, want) {
			t.Fatalf("R6: Read of %s: its data are changed, and so are %+v or %+v", line, other, later)
		}
	}
}

// The words that Words answers are a new list each time.
func TestWordsAnswersNewLists(t *testing.T) {
	for _, line := range []string{"", "a", "send 0 # now", " a b\tc\rd "} {
		want := wantWords(line)
		earlier, changed := script.Words(line), script.Words(line)
		spoil(changed, "spoilt")
		if later := script.Words(line); !slices.Equal(earlier, want) || !slices.Equal(later, want) {
			t.Fatalf("R6: Words(%q): another answer is changed, and so %q or %q", line, earlier, later)
		}
	}
}

// What Parse answers is new memory, and no list of it shares any with another.
func TestParseAnswersNewLists(t *testing.T) {
	text := "net 9\nhost 7 2 1 10 100\ndevice 7 2 1 10 100\nhost 9 2 1 10 100\n" +
		"write 0 h x0102\nwrite 0 h x0102\nwrite 0 d x010203 hold\nsend 0\nwrite 0 d x0102030405060708\n"
	want := wantParse(text)
	for i := range want.moves {
		got := parse(text)
		spoil(got.moves[i].Data, 0xee)
		for k := range got.moves {
			if k != i && !sameMove(got.moves[k], want.moves[k]) {
				t.Fatalf("R6: the data of move %d are changed, and so is move %d: %+v", i, k, got.moves[k])
			}
		}
	}
	first, got := parse(text), parse(text)
	spoil(got.net.Hosts, spoilt)
	if !slices.Equal(got.net.Devices, want.net.Devices) || !sameMoves(got.moves, want.moves) {
		t.Fatalf("R6: the hosts are changed, and so %+v", got)
	}
	spoil(got.net.Devices, spoilt)
	spoil(got.moves, api.Move{Kind: 77})
	if later := parse(text); !first.same(want) || !later.same(want) {
		t.Fatalf("R6: an answer is changed, and so %+v or %+v", first, later)
	}
}

// R8: the same calls are answered the same, whatever is asked between, and by several at a time.
func TestTheSameCallsAgain(t *testing.T) {
	var texts []string
	c := &chance{at: 15}
	for range 60 {
		text := ""
		for range c.below(12) {
			text += c.anyLine(5) + "\n"
		}
		texts = append(texts, text)
	}
	ask := func(text string) []any {
		p := parse(text)
		printed, e := script.Print(p.net, p.moves)
		words := script.Words(text)
		m, f := script.Read(words)
		n, is, g := script.Head(p.net, words)
		return []any{p, printed, e, words, m, f, n, is, g}
	}
	var first [][]any
	for _, text := range texts {
		first = append(first, ask(text))
	}
	var all sync.WaitGroup
	for i := range 8 {
		all.Go(func() {
			for k := range texts {
				at := (k*(2*i+1) + i) % len(texts)
				if got := ask(texts[at]); !reflect.DeepEqual(got, first[at]) {
					t.Errorf("R8: of %q: %+v, then %+v", texts[at], first[at], got)
				}
			}
		})
	}
	all.Wait()
}

// P1: any bytes, as a line, as words and as a text.
func FuzzAnyBytes(f *testing.F) {
	for _, text := range []string{"", "net 9\nhost 7 2 1 10 100\n\nsend 0 # now\nnet 3", "write 0 h xab hold", "x\x00\xff#\n\r\t "} {
		f.Add(text)
	}
	f.Fuzz(func(t *testing.T, text string) {
		saysParse(t, text)
		words := script.Words(text)
		if want := wantWords(text); !slices.Equal(words, want) {
			t.Fatalf("P20.3: Words(%q): %q, not %q", text, words, want)
		}
		saysRead(t, words...)
		saysHead(t, api.Net{}, words...)
		p := parse(text)
		printed, e := script.Print(p.net, p.moves)
		if again := parse(printed); e == api.OK && !again.same(p) && p.e == api.OK {
			t.Fatalf("P20.5: %q: %+v, and its print %+v", text, p, again)
		}
	})
}
