package bag_test

import (
	"testing"

	"parapet/api"
	"parapet/bag"
	"parapet/burst"
	"parapet/crc"
	"parapet/unit"
)

func TestChapterExamples(t *testing.T) {
	b := bag.New()
	if n, e := b.Put([]byte{1, 2, 3}); n != 0 || e != api.OK {
		t.Errorf("P15.1: Put(1 2 3): %d, %d", n, e)
	}
	if n, e := b.Put(nil); n != 1 || e != api.OK {
		t.Errorf("P15.1: Put(): %d, %d", n, e)
	}
	if n := b.Len(); n != 2 {
		t.Errorf("P15.3: Len: %d, not 2", n)
	}
	if n, most := b.Bytes(); n != 3 || most != 3 {
		t.Errorf("P15.3: Bytes: %d, %d, not 3, 3", n, most)
	}
	if f, e := b.Get(0); string(f) != "\x01\x02\x03" || e != api.OK {
		t.Errorf("P15.2: Get(0): % x, %d", f, e)
	}
	if f, e := b.Garbled(0, 7, 1); string(f) != "\x00\x02\x03" || e != api.OK {
		t.Errorf("P15.2: Garbled(0, 7, 1): % x, %d", f, e)
	}
	if f, e := b.Garbled(0, 24, 1); len(f) != 0 || e != api.ErrBurst {
		t.Errorf("P15.2: Garbled(0, 24, 1): % x, %d", f, e)
	}
	if f, e := b.Garbled(1, 0, 1); len(f) != 0 || e != api.ErrBurst {
		t.Errorf("P15.2: Garbled(1, 0, 1): % x, %d", f, e)
	}
	if f, e := b.Get(2); len(f) != 0 || e != api.ErrFrame {
		t.Errorf("P15.2: Get(2): % x, %d", f, e)
	}
}

func TestEmpty(t *testing.T) {
	k := fresh(t)
	k.holds()
	for _, i := range []int{0, -1, 1, least, top, api.MaxBag - 1, api.MaxBag} {
		k.gets(i)
		k.garbles(i, 0, 1)
		k.garbles(i, -1, 0)
	}
	k.holds()
}

// Each length that may be put, and lengths that may not.
func TestPutLengths(t *testing.T) {
	k := fresh(t)
	for n := range api.MaxUnit + 1 {
		k.puts(frameOf(n, n))
		k.holds()
	}
	if len(k.put) != 28 {
		t.Fatalf("P15.1: lengths that may be put: %d, not 28", len(k.put))
	}
	for _, n := range []int{api.MaxUnit + 1, api.MaxUnit + 2, 100, api.MaxSpan, 1 << 20} {
		k.puts(frameOf(n, n))
		k.puts(make([]byte, n))
		k.holds()
	}
	k.puts(frameOf(api.MaxUnit, 9))
	k.holds()
}

// A nil list and an empty one are the same (R5).
func TestPutNoBytes(t *testing.T) {
	k := fresh(t)
	for _, none := range [][]byte{nil, {}, make([]byte, 0, 40), frameOf(9, 9)[4:4]} {
		k.puts(none)
		k.holds()
		k.garbles(0, 0, 1)
	}
	if n, most := k.b.Bytes(); n != 0 || most != 0 || k.b.Len() != 4 {
		t.Errorf("P15.3: four frames of no bytes: %d, %d, %d", k.b.Len(), n, most)
	}
}

// The same bytes again are one frame more.
func TestPutTheSame(t *testing.T) {
	k := fresh(t)
	for _, frame := range append(sealed(t), []byte{}, []byte{0}, make([]byte, api.MaxUnit)) {
		for range 3 {
			k.puts(frame)
			k.holds()
		}
	}
}

// Any bytes may be put: frames, pieces of them, garbled ones, and what is no unit at all.
func TestPutAnything(t *testing.T) {
	k := fresh(t)
	for _, frame := range sealed(t) {
		for n := range len(frame) + 1 {
			k.puts(frame[:n])
			k.puts(frame[n:])
		}
		for i := range frame {
			k.puts(append(append(append([]byte{}, frame[:i]...), frame[i]^0x81), frame[i+1:]...))
		}
	}
	for x := range 256 {
		k.puts([]byte{byte(x)})
		k.puts(frameOf(x%28, x))
	}
	k.holds()
	lawful := 0
	for i := range k.put {
		frame, _ := k.b.Get(i)
		if _, e := unit.Decode(frame); e == api.OK {
			lawful++
		}
	}
	if lawful < 20 || lawful > len(k.put)/2 {
		t.Errorf("too little was tried: %d lawful frames of %d", lawful, len(k.put))
	}
}

// A full bag, which takes nothing any more and is otherwise as before.
func TestFull(t *testing.T) {
	k := filled(t, api.MaxBag-1)
	k.holds()
	// A frame that is too long isn't the last one.
	k.puts(frameOf(api.MaxUnit+1, 1))
	k.counts()
	k.puts([]byte{1, 2, 3})
	if len(k.put) != 4096 {
		t.Fatalf("P15.1: a full bag has %d frames, not 4096", len(k.put))
	}
	k.holds()
	for _, n := range []int{0, 1, 3, api.MinUnit, api.MaxUnit} {
		if i, e := k.b.Put(frameOf(n, 1)); i != 0 || e != api.ErrFull {
			t.Errorf("P15.1, R3: Put of %d bytes into a full bag: %d, %d, not 0, %d", n, i, e, api.ErrFull)
		}
		k.counts()
	}
	// R2: ErrLong is named ahead of ErrFull.
	for _, n := range []int{api.MaxUnit + 1, 1000} {
		if i, e := k.b.Put(frameOf(n, 1)); i != 0 || e != api.ErrLong {
			t.Errorf("R2: Put of %d bytes into a full bag: %d, %d, not 0, %d", n, i, e, api.ErrLong)
		}
	}
	k.holds()
	for _, i := range []int{0, 1, 4094, 4095, 4096, 4097, -1, least, top} {
		k.gets(i)
		k.garbles(i, 0, 1)
		k.garbles(i, 3, 0x1ff)
		k.garbles(i, -1, 1)
	}
	k.holds()
}

// Full of the longest frames, and of none: the greatest and the least that Bytes may tell.
func TestFullOfOneKind(t *testing.T) {
	for _, n := range []int{0, 1, api.MaxUnit} {
		k := fresh(t)
		for i := range api.MaxBag {
			k.puts(frameOf(n, i))
		}
		k.puts(frameOf(n, 1))
		if all, most := k.b.Bytes(); k.b.Len() != 4096 || all != 4096*n || most != n {
			t.Errorf("P15.3: full of %d bytes each: %d, %d, %d", n, k.b.Len(), all, most)
		}
		k.holds()
	}
}

func TestGetNumbers(t *testing.T) {
	for _, n := range []int{1, 2, 27, 100} {
		k := filled(t, n)
		for i := -3; i < n+3; i++ {
			k.gets(i)
		}
		for _, i := range []int{n + 4096, -n, -4096, 1 << 32, -1 << 32, 1<<32 + 1, least, least + 1, top, top - 1} {
			k.gets(i)
			k.garbles(i, 0, 1)
		}
		k.holds()
	}
}

func TestBytes(t *testing.T) {
	k := fresh(t)
	for _, step := range []struct{ put, all, most int }{
		{0, 0, 0}, {0, 0, 0}, {3, 3, 3}, {1, 4, 3}, {0, 4, 3}, {3, 7, 3}, {4, 11, 4}, {2, 13, 4},
		{28, 13, 4}, {1000, 13, 4}, {27, 40, 27}, {26, 66, 27}, {27, 93, 27}, {0, 93, 27},
	} {
		k.puts(frameOf(step.put, 5))
		if all, most := k.b.Bytes(); all != step.all || most != step.most {
			t.Errorf("P15.3: Bytes behind a frame of %d: %d, %d, not %d, %d", step.put, all, most, step.all, step.most)
		}
		k.counts()
		// Calls that only ask change nothing, whether they answer an error or not.
		k.gets(0)
		k.gets(len(k.put))
		k.garbles(0, 0, 1)
		k.garbles(len(k.put)-1, 0, 1)
		k.garbles(-1, 0, 0)
		k.holds()
	}
}

// Every place in and around frames of each length, with words of each length: what burst.Make says holds.
func TestGarbledEverywhere(t *testing.T) {
	k := fresh(t)
	for n := range api.MaxUnit + 1 {
		k.puts(frameOf(n, n))
	}
	done, refused := 0, 0
	for i, frame := range k.put {
		places := []int{least, least + 1, -33, top, top - 1, top - 31, top / 8, 1 << 31, 1 << 32}
		for at := -2; at < 8*len(frame)+3; at++ {
			places = append(places, at)
		}
		for _, at := range places {
			for _, word := range words() {
				got, e := k.garbles(i, at, word)
				pattern, want := burst.Make(len(frame), at, word)
				if e != want {
					t.Fatalf("P15.2: Garbled(%d, %d, %x): %d, but burst.Make: %d", i, at, word, e, want)
				}
				if e != api.OK {
					refused++
					continue
				}
				done++
				if diff, _ := burst.Turn([]byte(frame), got); string(diff) != string(pattern) {
					t.Fatalf("P15.2: Garbled(%d, %d, %x) turns % x, not % x", i, at, word, diff, pattern)
				}
			}
		}
	}
	if done < 50000 || refused < 20000 {
		t.Errorf("too little was tried: %d, %d", done, refused)
	}
	k.holds()
}

// The edges, one by one, and their order.
func TestGarbledEdges(t *testing.T) {
	k := fresh(t)
	k.puts(nil)
	k.puts([]byte{0})
	k.puts(make([]byte, 4))
	k.puts(make([]byte, api.MaxUnit))
	tries := []struct {
		i, at int
		word  uint32
		e     api.Errno
		want  string
	}{
		{0, 0, 1, api.ErrBurst, ""}, {0, 0, 0, api.ErrBurst, ""}, {0, -1, 1, api.ErrBurst, ""}, {0, 8, 1, api.ErrBurst, ""},
		{1, 0, 1, api.OK, "\x80"}, {1, 7, 1, api.OK, "\x01"}, {1, 8, 1, api.ErrBurst, ""}, {1, 9, 1, api.ErrBurst, ""},
		{1, 0, 0, api.ErrBurst, ""}, {1, 7, 0, api.ErrBurst, ""}, {1, 6, 3, api.OK, "\x03"}, {1, 7, 3, api.ErrBurst, ""},
		{1, 0, 0xff, api.OK, "\xff"}, {1, 0, 0x100, api.ErrBurst, ""}, {1, 0, 0x80, api.OK, "\x80"}, {1, -1, 1, api.ErrBurst, ""},
		{1, top, 1, api.ErrBurst, ""}, {1, least, 1, api.ErrBurst, ""}, {1, top, 1 << 31, api.ErrBurst, ""},
		{2, 0, 1 << 31, api.OK, "\x80\x00\x00\x00"}, {2, 0, 0xffffffff, api.OK, "\xff\xff\xff\xff"},
		{2, 1, 0xffffffff, api.ErrBurst, ""}, {2, 1, 0x7fffffff, api.OK, "\x7f\xff\xff\xff"}, {2, 31, 1, api.OK, "\x00\x00\x00\x01"},
		{3, 215, 1, api.OK, string(make([]byte, 26)) + "\x01"}, {3, 216, 1, api.ErrBurst, ""}, {3, 184, 0xffffffff, api.OK, string(make([]byte, 23)) + "\xff\xff\xff\xff"},
		{3, 185, 0xffffffff, api.ErrBurst, ""},
		// R2: ErrFrame is named ahead of what burst.Make answers.
		{4, 0, 1, api.ErrFrame, ""}, {4, 0, 0, api.ErrFrame, ""}, {4, -1, 1, api.ErrFrame, ""}, {-1, 0, 0, api.ErrFrame, ""},
		{-1, -1, 0, api.ErrFrame, ""}, {least, least, 0, api.ErrFrame, ""}, {top, top, 1 << 31, api.ErrFrame, ""},
	}
	for _, x := range tries {
		got, e := k.garbles(x.i, x.at, x.word)
		if string(got) != x.want || e != x.e {
			t.Errorf("P15.2: Garbled(%d, %d, %x): % x, %d, not % x, %d", x.i, x.at, x.word, got, e, x.want, x.e)
		}
	}
	k.holds()
}

// A garbled copy of a sealed frame isn't valid; the frame in the bag is, and so is the copy garbled again.
func TestGarbledSealed(t *testing.T) {
	k, copies := fresh(t), fresh(t)
	for _, frame := range sealed(t) {
		k.puts(frame)
	}
	for i, frame := range k.put {
		for at := 0; at < 8*len(frame); at += 5 {
			for _, word := range []uint32{1, 3, 0x8001, 0xffffff, 0x80000001, 0xffffffff} {
				got, e := k.garbles(i, at, word)
				if e != api.OK {
					continue
				}
				if _, e := unit.Decode(got); crc.Valid(got) || e != api.ErrCheck {
					t.Fatalf("P6: Garbled(%d, %d, %x) passes its check: % x, %d", i, at, word, got, e)
				}
				if stays, _ := k.b.Get(i); string(stays) != frame || !crc.Valid(stays) {
					t.Fatalf("P15.2: Garbled(%d, %d, %x) changes the frame in the bag: % x", i, at, word, stays)
				}
				if len(copies.put) == api.MaxBag {
					copies = fresh(t)
				}
				copies.puts(got)
				again, e := copies.garbles(len(copies.put)-1, at, word)
				if string(again) != frame || e != api.OK {
					t.Fatalf("P15.2: garbled twice by %d, %x: % x, %d, not % x", at, word, again, e, frame)
				}
			}
		}
	}
	k.holds()
	if len(copies.put) < 1000 {
		t.Errorf("too little was tried: %d", len(copies.put))
	}
}

func TestNil(t *testing.T) {
	var none *bag.Bag
	for _, n := range []int{0, 3, api.MaxUnit, api.MaxUnit + 1, 1000} {
		if i, e := none.Put(make([]byte, n)); i != 0 || e != api.ErrNil {
			t.Errorf("R2: nil: Put of %d bytes: %d, %d", n, i, e)
		}
	}
	for _, i := range []int{0, -1, 1, least, top} {
		if f, e := none.Get(i); len(f) != 0 || e != api.ErrNil {
			t.Errorf("R2: nil: Get(%d): % x, %d", i, f, e)
		}
		for _, word := range []uint32{0, 1, 1 << 31} {
			if f, e := none.Garbled(i, i, word); len(f) != 0 || e != api.ErrNil {
				t.Errorf("R2: nil: Garbled(%d, %d, %x): % x, %d", i, i, word, f, e)
			}
		}
	}
	if n := none.Len(); n != 0 {
		t.Errorf("R7: nil: Len: %d", n)
	}
	if n, most := none.Bytes(); n != 0 || most != 0 {
		t.Errorf("R7: nil: Bytes: %d, %d", n, most)
	}
}

// One that New has not made: nothing is promised of it but that no call panics.
func TestNotMade(t *testing.T) {
	b := &bag.Bag{}
	b.Put([]byte{1})
	b.Put(nil)
	b.Put(make([]byte, 28))
	b.Get(0)
	b.Garbled(0, 0, 1)
	all, most := b.Bytes()
	if n := b.Len(); n < 0 || all < 0 || most < 0 {
		t.Errorf("P1: one that New has not made: %d, %d, %d", n, all, most)
	}
}

// R3: beside an error the other result is its zero value.
func TestErrorsBringNothing(t *testing.T) {
	k := filled(t, 5)
	if n, e := k.b.Put(make([]byte, 28)); n != 0 || e != api.ErrLong {
		t.Errorf("R3: Put of 28 bytes: %d, %d", n, e)
	}
	for _, i := range []int{-1, 5, top} {
		if f, e := k.b.Get(i); len(f) != 0 || e != api.ErrFrame {
			t.Errorf("R3: Get(%d): % x, %d", i, f, e)
		}
		if f, e := k.b.Garbled(i, 0, 1); len(f) != 0 || e != api.ErrFrame {
			t.Errorf("R3: Garbled(%d, 0, 1): % x, %d", i, f, e)
		}
	}
	for i := range 5 {
		if f, e := k.b.Garbled(i, 0, 0); len(f) != 0 || e != api.ErrBurst {
			t.Errorf("R3: Garbled(%d, 0, 0): % x, %d", i, f, e)
		}
	}
	k.holds()
}
