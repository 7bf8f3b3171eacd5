package bag_test

import (
	"fmt"
	"testing"

	"parapet/api"
	"parapet/bag"
)

// step is one call to a bag; what it finds is spoilt, so that a script tries R6 as well.
type step func(k *bench)

// steps that a script is made of.
var stepList = []step{
	func(k *bench) { k.puts(nil) },
	func(k *bench) { k.puts([]byte{0xa5}) },
	func(k *bench) { k.puts(frameOf(api.MaxUnit, len(k.put))) },
	func(k *bench) { k.puts(frameOf(api.MaxUnit+1, 1)) },
	func(k *bench) { k.gets(0) },
	func(k *bench) { k.gets(len(k.put) - 1) },
	func(k *bench) { f, _ := k.b.Get(len(k.put) - 1); spoil(f) },
	func(k *bench) { f, _ := k.garbles(0, 0, 3); spoil(f) },
	func(k *bench) { f, _ := k.garbles(len(k.put)-1, 7, 1); spoil(f) },
	func(k *bench) { k.garbles(len(k.put)-1, 7, 0) },
	func(k *bench) { f, e := k.garbles(len(k.put)-1, 4, 9); k.putBack(f, e) },
	func(k *bench) { f, e := k.b.Get(len(k.put) / 2); k.putBack(f, e) },
}

// putBack puts what was found, as the channel may, and spoils it behind that.
func (k *bench) putBack(f []byte, e api.Errno) {
	k.t.Helper()
	if e == api.OK {
		k.puts(f)
		spoil(f)
	}
}

// Every script of four steps.
func TestEveryShortScript(t *testing.T) {
	n := len(stepList)
	runs := 0
	for script := range n * n * n * n {
		k := fresh(t)
		for at, rest := 0, script; at < 4; at, rest = at+1, rest/n {
			stepList[rest%n](k)
			k.counts()
		}
		k.holds()
		runs++
	}
	if runs != 20736 {
		t.Errorf("too little was tried: %d", runs)
	}
}

// Every script of two steps on bags that are nearly full or full.
func TestShortScriptsNearlyFull(t *testing.T) {
	n := len(stepList)
	for script := range n * n {
		k := fresh(t)
		for range api.MaxBag - 1 {
			k.puts([]byte{byte(script), 2})
		}
		for _, do := range []step{stepList[script%n], stepList[script/n], stepList[script%n]} {
			do(k)
			k.counts()
		}
		k.gets(api.MaxBag - 1)
		k.gets(api.MaxBag)
	}
}

// chance gives numbers that look like chance, the same ones at each run.
type chance struct{ at uint64 }

func (c *chance) below(n int) int {
	c.at = c.at*6364136223846793005 + 1442695040888963407
	return int(c.at>>33) % n
}

// place is a frame's number, mostly one that there is.
func (c *chance) place(k *bench) int { return c.below(len(k.put)+4) - 2 }

// word is of any length, 0 now and then.
func (c *chance) word() uint32 {
	w := uint32(c.below(1<<30))<<2 | uint32(c.below(4))
	return w >> c.below(33)
}

// do: one step, held against the bench.
func (c *chance) do(k *bench) {
	switch c.below(8) {
	case 0, 1, 2:
		k.puts(frameOf(c.below(api.MaxUnit+3), c.below(1000)))
	case 3:
		k.gets(c.place(k))
	case 4:
		f, _ := k.b.Get(c.place(k))
		spoil(f)
	case 5:
		f, e := k.b.Get(c.place(k))
		k.putBack(f, e)
	case 6:
		f, _ := k.garbles(c.place(k), c.below(230)-4, c.word())
		spoil(f)
	default:
		f, e := k.garbles(c.place(k), c.below(100), c.word())
		k.putBack(f, e)
	}
	k.counts()
}

func TestLongScripts(t *testing.T) {
	c := &chance{at: 15}
	for range 40 {
		k := fresh(t)
		for range 300 {
			c.do(k)
		}
		k.holds()
		if len(k.put) < 80 {
			t.Errorf("too little was tried: %d frames", len(k.put))
		}
	}
}

// One script goes on beyond where the bag is full.
func TestLongScriptFull(t *testing.T) {
	c := &chance{at: 16}
	k := filled(t, api.MaxBag-60)
	for range 400 {
		c.do(k)
	}
	k.holds()
	if len(k.put) != api.MaxBag {
		t.Errorf("too little was tried: %d frames", len(k.put))
	}
}

func TestTwoInTurns(t *testing.T) {
	// Each goes by what was put into it, whatever the other one is told between.
	c := &chance{at: 17}
	for range 20 {
		a, b := fresh(t), fresh(t)
		for range 120 {
			k := a
			if c.below(3) == 1 {
				k = b
			}
			c.do(k)
			a.counts()
			b.counts()
		}
		a.holds()
		b.holds()
		if len(a.put) == len(b.put) && len(a.put) < 20 {
			t.Errorf("too little was tried: %d, %d", len(a.put), len(b.put))
		}
	}
}

func TestTheSameAgain(t *testing.T) {
	// R8: what one bag is told, told to another, is answered the same.
	runs := func() (answers []string) {
		c := &chance{at: 18}
		b := bag.New()
		for range 400 {
			n, e := b.Put(frameOf(c.below(30), c.below(99)))
			f, e2 := b.Get(c.below(200) - 1)
			g, e3 := b.Garbled(c.below(200)-1, c.below(100), c.word())
			all, most := b.Bytes()
			answers = append(answers, fmt.Sprint(n, e, f, e2, g, e3, b.Len(), all, most))
		}
		return answers
	}
	once := runs()
	for range 3 {
		for i, got := range runs() {
			if got != once[i] {
				t.Fatalf("R8: answer %d: %s, then %s", i, once[i], got)
			}
		}
	}
}

// Histories without a bench: what the chapter says of any bag.
func TestHistories(t *testing.T) {
	c := &chance{at: 19}
	for range 30 {
		b := bag.New()
		for range 150 {
			n, most := b.Bytes()
			was := b.Len()
			size := c.below(api.MaxUnit + 2)
			i, e := b.Put(frameOf(size, c.below(99)))
			all, longest := b.Bytes()
			if e != api.OK {
				if b.Len() != was || all != n || longest != most || size <= api.MaxUnit {
					t.Fatalf("R4: Put that answered %d: %d, %d, %d, not %d, %d, %d", e, b.Len(), all, longest, was, n, most)
				}
				continue
			}
			if i != was || b.Len() != was+1 || all != n+size || longest != max(most, size) {
				t.Fatalf("P15.1, P15.3: Put of %d bytes: %d, then %d, %d, %d behind %d, %d, %d", size, i, b.Len(), all, longest, was, n, most)
			}
			holdSums(t, b)
		}
	}
}

// holdSums: Bytes is what one finds by Get, and Get knows just Len frames.
func holdSums(t *testing.T, b *bag.Bag) {
	t.Helper()
	all, longest, n := 0, 0, 0
	for {
		f, e := b.Get(n)
		if e != api.OK {
			break
		}
		n, all, longest = n+1, all+len(f), max(longest, len(f))
	}
	if a, most := b.Bytes(); n != b.Len() || a != all || most != longest {
		t.Fatalf("P15.3: Len and Bytes: %d, %d, %d; by Get: %d, %d, %d", b.Len(), a, most, n, all, longest)
	}
}
