package bag_test

import (
	"bytes"
	"fmt"
	"math"
	"strconv"
	"strings"
	"testing"

	"parapet/api"
	"parapet/bag"
	"parapet/unit"
)

const (
	top   = math.MaxInt64
	least = math.MinInt64
)

// bench is a bag, and what was put into it, as texts, which nothing changes.
type bench struct {
	t   *testing.T
	b   *bag.Bag
	put []string
}

// fresh: a new bag.
func fresh(t *testing.T) *bench {
	t.Helper()
	b := bag.New()
	if b == nil {
		t.Fatal("P15.1: New: nil")
	}
	return &bench{t: t, b: b}
}

// filled: a bag with n frames, of all lengths.
func filled(t *testing.T, n int) *bench {
	t.Helper()
	k := fresh(t)
	for i := range n {
		k.puts(frameOf((5*i+3)%(api.MaxUnit+1), i))
	}
	return k
}

// frameOf: n bytes, the same at each run; another seed gives others.
func frameOf(n, seed int) []byte {
	b := make([]byte, n)
	x := uint32(seed)*2654435761 + 1
	for i := range b {
		x = x*1664525 + 1013904223
		b[i] = byte(x >> 24)
	}
	return b
}

// sealed: a lawful frame of each length from MinUnit on that the table of units allows.
func sealed(t *testing.T) [][]byte {
	t.Helper()
	units := []api.Unit{
		{Kind: api.HostParam, Code: 7, Data: []byte{1, 2, 3, 4}},
		{Kind: api.HostStart, Code: 7, Session: 1},
		{Kind: api.DevNone, Code: 1},
	}
	for n := 1; n <= api.MaxData; n++ {
		units = append(units, api.Unit{Kind: api.DevData, Code: 7, Session: 3, Number: uint32(n), Flags: n, Data: frameOf(n, n)})
	}
	var frames [][]byte
	for _, u := range units {
		frame, e := unit.Encode(u)
		if e != api.OK {
			t.Fatalf("unit.Encode(%+v): %d", u, e)
		}
		frames = append(frames, frame)
	}
	return frames
}

// puts: Put of a frame, held against what the bench says comes of it.
func (k *bench) puts(frame []byte) {
	k.t.Helper()
	number, want := len(k.put), api.OK
	switch {
	case len(frame) > api.MaxUnit:
		number, want = 0, api.ErrLong
	case len(k.put) == api.MaxBag:
		number, want = 0, api.ErrFull
	default:
		k.put = append(k.put, string(frame))
	}
	if got, e := k.b.Put(frame); got != number || e != want {
		k.t.Fatalf("P15.1: Put of %d bytes into %d frames: %d, %d, not %d, %d", len(frame), len(k.put), got, e, number, want)
	}
}

// gets: Get of a number, likewise.
func (k *bench) gets(i int) {
	k.t.Helper()
	frame, want := "", api.ErrFrame
	if k.has(i) {
		frame, want = k.put[i], api.OK
	}
	if got, e := k.b.Get(i); string(got) != frame || e != want {
		k.t.Fatalf("P15.2: Get(%d) of %d frames: % x, %d, not % x, %d", i, len(k.put), got, e, frame, want)
	}
}

func (k *bench) has(i int) bool { return i >= 0 && i < len(k.put) }

// garbles: Garbled, likewise; it answers what the bag did.
func (k *bench) garbles(i, at int, word uint32) ([]byte, api.Errno) {
	k.t.Helper()
	frame, want := "", api.ErrFrame
	if k.has(i) {
		frame, want = turned(k.put[i], at, word)
	}
	got, e := k.b.Garbled(i, at, word)
	if string(got) != frame || e != want {
		k.t.Fatalf("P15.2: Garbled(%d, %d, %x) of %d frames: % x, %d, not % x, %d", i, at, word, len(k.put), got, e, frame, want)
	}
	return got, e
}

// turned: the frame with the word's digits laid from the bit at on, told by texts of digits.
func turned(frame string, at int, word uint32) (string, api.Errno) {
	line := digits(frame)
	turn := strconv.FormatUint(uint64(word), 2)
	if word == 0 || at < 0 || at > len(line) || len(turn) > len(line)-at {
		return "", api.ErrBurst
	}
	other := map[byte]byte{'0': '1', '1': '0'}
	b := []byte(line)
	for i := range len(turn) {
		if turn[i] == '1' {
			b[at+i] = other[b[at+i]]
		}
	}
	return ofDigits(string(b)), api.OK
}

// digits writes bytes as the document counts their bits: the first byte's highest one stands first.
func digits(frame string) string {
	var s strings.Builder
	for i := range len(frame) {
		fmt.Fprintf(&s, "%08b", frame[i])
	}
	return s.String()
}

// ofDigits is the way back.
func ofDigits(line string) string {
	var b []byte
	for ; line != ""; line = line[8:] {
		x, _ := strconv.ParseUint(line[:8], 2, 8)
		b = append(b, byte(x))
	}
	return string(b)
}

// counts: Len and Bytes are as the frames that were put say.
func (k *bench) counts() {
	k.t.Helper()
	all, longest := 0, 0
	for _, frame := range k.put {
		all += len(frame)
		longest = max(longest, len(frame))
	}
	if n := k.b.Len(); n != len(k.put) {
		k.t.Fatalf("P15.3: Len: %d, not %d", n, len(k.put))
	}
	if n, most := k.b.Bytes(); n != all || most != longest {
		k.t.Fatalf("P15.3: Bytes of %d frames: %d, %d, not %d, %d", len(k.put), n, most, all, longest)
	}
}

// holds: the whole bag is as it should be.
func (k *bench) holds() {
	k.t.Helper()
	k.counts()
	for i := range k.put {
		k.gets(i)
	}
	k.gets(len(k.put))
	k.gets(-1)
}

// same: a list is what it should be, else R6 is broken in this way.
func same(t *testing.T, got []byte, want, how string) {
	t.Helper()
	if !bytes.Equal(got, []byte(want)) {
		t.Fatalf("R6: %s: % x, not % x", how, got, want)
	}
}

// words of all lengths, none among them.
func words() []uint32 {
	list := []uint32{0, math.MaxUint32, 0x80000001, 0xdeadbeef}
	for n := range 32 {
		list = append(list, 1<<n)
	}
	return append(list, 3, 5, 7, 0xff, 0x101, 0xa5a5)
}
