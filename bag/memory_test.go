package bag_test

import (
	"bytes"
	"testing"

	"parapet/api"
)

// spoil changes each byte of a list, with its room, and appends to it.
func spoil(b []byte) {
	all := b[:cap(b)]
	for i := range all {
		all[i] ^= 0xff
	}
	_ = append(b, 0xdd, 0xdd, 0xdd)
}

// roomy is a list of these bytes, with others ahead of it and in its spare room.
func roomy(b []byte) (list, whole []byte) {
	whole = bytes.Repeat([]byte{0x5a}, len(b)+24)
	copy(whole[8:], b)
	return whole[8 : 8+len(b)], whole
}

// What is put is neither changed nor kept, with the room around it.
func TestPutKeepsNothing(t *testing.T) {
	k := fresh(t)
	for n := range api.MaxUnit + 4 {
		list, whole := roomy(frameOf(n, n))
		was := string(whole)
		k.puts(list)
		k.holds()
		k.garbles(len(k.put)-1, 0, 1)
		same(t, whole, was, "Put changes its frame, or the room around it")
		spoil(whole)
		was = string(whole)
		k.holds()
		// Nor is what was handed in written later.
		k.puts(frameOf(n/2, 99))
		for i := range k.put {
			f, _ := k.b.Get(i)
			spoil(f)
		}
		same(t, whole, was, "what was put is written later")
		k.holds()
	}
}

// One list that is used again for each frame.
func TestPutOneList(t *testing.T) {
	k := fresh(t)
	list := make([]byte, 0, 64)
	for n := range 100 {
		list = append(list[:0], frameOf((7*n)%28, n)...)
		k.puts(list)
		spoil(list)
		k.holds()
	}
}

// asks: each call that answers a frame's bytes, with what it answers of the frame i.
func (k *bench) asks(i int) map[string]func() []byte {
	return map[string]func() []byte{
		"Get":     func() []byte { f, _ := k.b.Get(i); return f },
		"Garbled": func() []byte { f, _ := k.b.Garbled(i, 1, 5); return f },
		"refused": func() []byte { f, _ := k.b.Garbled(i, -1, 5); return f },
		"none":    func() []byte { f, _ := k.b.Get(-1 - i); return f },
	}
}

// An answer that is changed changes nothing that is kept, nor an earlier or a later answer.
func TestAnswersAreNew(t *testing.T) {
	k := filled(t, 60)
	tried := 0
	for i := range k.put {
		for name, ask := range k.asks(i) {
			want := string(ask())
			earlier := ask()
			spoil(ask())
			same(t, earlier, want, name+": an answer that is changed changes an earlier one")
			same(t, ask(), want, name+": an answer that is changed changes a later one")
			for other, askOther := range k.asks(i) {
				kept := askOther()
				was := string(kept)
				spoil(ask())
				same(t, kept, was, other+": changed by an answer of "+name)
				tried++
			}
			k.gets(i)
		}
	}
	k.holds()
	if tried != 60*16 {
		t.Errorf("too little was tried: %d", tried)
	}
}

// What was answered stays as it was, in its room too, whatever is called behind it.
func TestAnswersStay(t *testing.T) {
	k := filled(t, 40)
	var answers [][]byte
	var were []string
	for i := range 40 {
		for _, ask := range k.asks(i) {
			f := ask()
			answers = append(answers, f)
			were = append(were, string(f[:cap(f)]))
		}
	}
	for i := range 200 {
		k.puts(frameOf(i%30, i))
		k.b.Get(i)
		k.b.Garbled(i%40, i, uint32(i))
	}
	for i, f := range answers {
		same(t, f[:cap(f)], were[i], "an earlier answer")
	}
	k.holds()
}

// An answer's room is its own as well: two that grow don't meet, nor does one grow into the next frame.
func TestAnswersGrowApart(t *testing.T) {
	k := filled(t, 60)
	for i := range k.put {
		for name, ask := range k.asks(i) {
			want := string(ask())
			a, b := ask(), ask()
			a = append(a, 1, 1)
			b = append(b, 2, 2)
			same(t, a, want+"\x01\x01", name+": an answer that was appended to")
			same(t, b, want+"\x02\x02", name+": another one")
			k.holds()
		}
	}
}

// One bag's frame put into another: each has its own.
func TestFromBagToBag(t *testing.T) {
	a, b := filled(t, 50), fresh(t)
	for i := range a.put {
		f, _ := a.b.Get(i)
		b.puts(f)
		spoil(f)
		g, _ := a.b.Garbled(i, 0, 1)
		b.puts(g)
		spoil(g)
		back, _ := b.b.Get(2 * i)
		spoil(back)
		a.gets(i)
		b.gets(2 * i)
		b.gets(2*i + 1)
	}
	a.holds()
	b.holds()
}
