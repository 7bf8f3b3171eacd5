package crc_test

import (
	"bytes"
	"hash/crc32"
	"math"
	"math/big"
	"math/bits"
	"sync"
	"testing"

	"parapet/api"
	"parapet/crc"
	"parapet/poly"
)

const generator = 0x11edc6f41

// order: x to this is 1 by the generator, and no lower power is (but the one to the 0).
const order = 1<<31 - 1

// engine is what Table and Sliced have in common.
type engine interface {
	Sum(b []byte) (uint32, api.Errno)
	Built() bool
}

// kinds: how each engine with tables is made; by hand, too, since a zero one is as good as a new one.
var kinds = []struct {
	name string
	make func() engine
}{
	{"NewTable", func() engine { return crc.NewTable() }},
	{"NewSliced", func() engine { return crc.NewSliced() }},
	{"Table{}", func() engine { return &crc.Table{} }},
	{"Sliced{}", func() engine { return &crc.Sliced{} }},
}

// bytesOf: n bytes, the same at each run; another seed gives others.
func bytesOf(n int, seed uint32) []byte {
	b := make([]byte, n)
	for i := range b {
		seed = seed*1664525 + 1013904223
		b[i] = byte(seed >> 24)
	}
	return b
}

// lists: all lengths up to 40 and some greater ones; zeros ahead and behind among them.
func lists() [][]byte {
	out := [][]byte{
		nil, {}, {0}, {1}, {0x80}, {0xff}, {0, 0, 0}, {0, 0, 0, 0}, {0, 0, 0, 0, 0}, {0, 0, 0, 0, 1}, {1, 0, 0, 0, 0},
		{0x80, 0, 0, 0}, {0, 0, 0, 1}, {1, 0x1e, 0xdc, 0x6f, 0x41}, {0xff, 0xff, 0xff, 0xff}, {0xff, 0xff, 0xff, 0xff, 0xff},
	}
	for n := range 41 {
		out = append(out, bytesOf(n, uint32(n)), bytesOf(n, uint32(n)+1000))
	}
	for _, n := range []int{63, 64, 65, 255, 256, 257, 1021, 1022, 1023, 1024} {
		out = append(out, bytesOf(n, uint32(n)))
	}
	return out
}

// rest is the long way: the remainder by the generator, on numbers without a greatest size.
func rest(p *big.Int) uint32 {
	r, g := new(big.Int).Set(p), big.NewInt(generator)
	for r.BitLen() >= g.BitLen() {
		r.Xor(r, new(big.Int).Lsh(g, uint(r.BitLen()-g.BitLen())))
	}
	return uint32(r.Uint64())
}

// longCheck is the chapter's own words: the remainder of the bytes' polynomial times x to the 32.
func longCheck(b []byte) uint32 {
	return rest(new(big.Int).Lsh(new(big.Int).SetBytes(b), 32))
}

// libraryCheck is the library's check by the same generator, which begins with
// all bits 1, ends with all of them turned, and has the bits in the other order.
func libraryCheck(b []byte) uint32 {
	mirrored := make([]byte, len(b))
	for i, x := range b {
		mirrored[i] = bits.Reverse8(x)
	}
	return bits.Reverse32(^crc32.Update(math.MaxUint32, crc32.MakeTable(crc32.Castagnoli), mirrored))
}

func sum(t *testing.T, e engine, b []byte) uint32 {
	t.Helper()
	got, err := e.Sum(b)
	if err != api.OK {
		t.Fatalf("Sum of %d bytes: error %d", len(b), err)
	}
	return got
}

func join(t *testing.T, a, b uint32, n int) uint32 {
	t.Helper()
	got, err := crc.Join(a, b, n)
	if err != api.OK {
		t.Fatalf("Join(%x, %x, %d): error %d", a, b, n, err)
	}
	return got
}

// flip turns bits of a copy; they are counted from the first byte's highest one on (R1).
func flip(b []byte, places ...int) []byte {
	out := bytes.Clone(b)
	for _, i := range places {
		out[i/8] ^= 0x80 >> (i % 8)
	}
	return out
}

// turn turns the bits of a word, the highest at the place at; what reaches beyond the end is left out.
func turn(b []byte, at int, pattern uint32) []byte {
	out := bytes.Clone(b)
	for i := range 32 {
		if pattern<<i>>31 == 1 && at+i < 8*len(b) {
			out[(at+i)/8] ^= 0x80 >> ((at + i) % 8)
		}
	}
	return out
}

// P2.1.

func TestGenerator(t *testing.T) {
	g := crc.Generator()
	if g != 0x11edc6f41 || poly.Degree(g) != 32 || poly.Weight(g) != 18 || g&1 != 1 || poly.Gcd(g, 3) != 3 {
		t.Errorf("Generator: %x", g)
	}
}

func TestExamples(t *testing.T) {
	for text, want := range map[string]uint32{
		"": 0, "\x00": 0, "\x01": 0x1edc6f41, "\x80": 0xc0c1d64f, "a": 0x093bea25, "123456789": 0xc052a8c8,
	} {
		if got := crc.Bits([]byte(text)); got != want {
			t.Errorf("Bits(%q): %x, want %x", text, got, want)
		}
		for _, k := range kinds {
			e := k.make()
			if first, second := sum(t, e, []byte(text)), sum(t, e, []byte(text)); first != want || second != want {
				t.Errorf("%s: Sum(%q): %x, then %x, want %x", k.name, text, first, second, want)
			}
		}
	}
}

func TestCheckIsTheRemainder(t *testing.T) {
	used := []engine{crc.NewTable(), crc.NewSliced()}
	for _, b := range lists() {
		want := longCheck(b)
		if got := crc.Bits(b); got != want {
			t.Fatalf("Bits(%x): %x, want %x", b, got, want)
		}
		for _, k := range kinds {
			if got := sum(t, k.make(), b); got != want {
				t.Fatalf("%s: the first Sum(%x): %x, want %x", k.name, b, got, want)
			}
		}
		for _, e := range used {
			if got := sum(t, e, b); got != want {
				t.Fatalf("%T: Sum(%x): %x, want %x", e, b, got, want)
			}
		}
	}
}

func TestCheckOfLongLists(t *testing.T) {
	table, sliced := crc.NewTable(), crc.NewSliced()
	for _, n := range []int{1 << 16, 1<<16 + 1, 1<<16 + 2, 1<<16 + 3, 1 << 20} {
		b := bytesOf(n, 7)
		want := libraryCheck(b)
		if a, s, d := crc.Bits(b), sum(t, table, b), sum(t, sliced, b); a != want || s != want || d != want {
			t.Errorf("%d bytes: %x %x %x, want %x", n, a, s, d, want)
		}
	}
}

// Every byte at every place of a run of four and behind it: each word of each table is looked up alone.
func TestEachByteAlone(t *testing.T) {
	table, sliced := crc.NewTable(), crc.NewSliced()
	for n := 1; n <= 9; n++ {
		for at := range n {
			for x := range 256 {
				b := make([]byte, n)
				b[at] = byte(x)
				want := rest(new(big.Int).Lsh(big.NewInt(int64(x)), uint(8*(n-1-at)+32)))
				if a, s, d := crc.Bits(b), sum(t, table, b), sum(t, sliced, b); a != want || s != want || d != want {
					t.Fatalf("%x: %x %x %x, want %x", b, a, s, d, want)
				}
			}
		}
	}
}

// P2.2.

func TestBuiltAtTheFirstSum(t *testing.T) {
	for _, k := range kinds {
		for _, b := range [][]byte{nil, {}, {0}, {1, 2, 3}, {1, 2, 3, 4}, bytesOf(100, 1)} {
			e, other := k.make(), k.make()
			if e.Built() || other.Built() || e.Built() {
				t.Errorf("%s: built ahead of any Sum", k.name)
			}
			sum(t, e, b)
			if !e.Built() {
				t.Errorf("%s: not built behind Sum(%x)", k.name, b)
			}
			if other.Built() {
				t.Errorf("%s: Sum(%x) of one built another", k.name, b)
			}
			sum(t, e, nil)
			if !e.Built() || other.Built() {
				t.Errorf("%s: behind a second Sum: %v, the other one: %v", k.name, e.Built(), other.Built())
			}
			if got, want := sum(t, other, []byte("a")), uint32(0x093bea25); got != want || !other.Built() {
				t.Errorf("%s: the other one's first Sum: %x, built %v", k.name, got, other.Built())
			}
		}
	}
}

func TestNothingElseBuilds(t *testing.T) {
	table, sliced := crc.NewTable(), crc.NewSliced()
	crc.Valid(crc.Seal([]byte{1, 2, 3}))
	crc.Bits([]byte{1})
	join(t, 1, 2, 3)
	sum(t, crc.NewTable(), []byte{1})
	if sliced.Built() || table.Built() {
		t.Error("built without a Sum of its own")
	}
	sum(t, table, []byte{1})
	if sliced.Built() || crc.NewTable().Built() {
		t.Error("one kind's Sum built the other, or a new one")
	}
}

func TestNilEngines(t *testing.T) {
	var table *crc.Table
	var sliced *crc.Sliced
	for _, b := range lists() {
		for _, e := range []engine{table, sliced} {
			if got, err := e.Sum(b); got != 0 || err != api.ErrNil {
				t.Errorf("%T: Sum(%x) of a nil one: %x, error %d", e, b, got, err)
			}
			if e.Built() {
				t.Errorf("%T: a nil one is built", e)
			}
		}
	}
}

// One engine in many hands: its tables are built once, and whole ahead of every look into them.
func TestFirstSumOfMany(t *testing.T) {
	b := bytesOf(103, 3)
	want := longCheck(b)
	for _, k := range kinds {
		for range 50 {
			e := k.make()
			got := make([]uint32, 8)
			var group sync.WaitGroup
			for i := range got {
				group.Go(func() {
					got[i], _ = e.Sum(b)
					if !e.Built() {
						got[i] = 0
					}
				})
			}
			group.Wait()
			for i := range got {
				if got[i] != want {
					t.Fatalf("%s: Sum of the %dth: %x, want %x", k.name, i, got[i], want)
				}
			}
		}
	}
}

// P2.3.

func TestSealExamples(t *testing.T) {
	for _, c := range []struct{ b, want []byte }{
		{[]byte{1}, []byte{1, 0x1e, 0xdc, 0x6f, 0x41}},
		{nil, []byte{0, 0, 0, 0}},
		{[]byte{}, []byte{0, 0, 0, 0}},
		{[]byte{0}, []byte{0, 0, 0, 0, 0}},
		{[]byte{0x80}, []byte{0x80, 0xc0, 0xc1, 0xd6, 0x4f}},
		{[]byte("123456789"), []byte("123456789\xc0\x52\xa8\xc8")},
	} {
		if got := crc.Seal(c.b); !bytes.Equal(got, c.want) {
			t.Errorf("Seal(%x): %x, want %x", c.b, got, c.want)
		}
	}
}

func TestSealIsTheBytesAndTheirCheck(t *testing.T) {
	for _, b := range lists() {
		c := longCheck(b)
		want := append(bytes.Clone(b), byte(c>>24), byte(c>>16), byte(c>>8), byte(c))
		got := crc.Seal(b)
		if !bytes.Equal(got, want) || !crc.Valid(got) {
			t.Errorf("Seal(%x): %x, valid %v, want %x", b, got, crc.Valid(got), want)
		}
		if len(got) > 256 {
			continue
		}
		for i := range 8 * len(got) {
			if crc.Valid(flip(got, i)) {
				t.Errorf("Seal(%x) with bit %d turned is valid", b, i)
			}
		}
	}
}

func TestValidExamples(t *testing.T) {
	for _, c := range []struct {
		b    []byte
		want bool
	}{
		{[]byte{1, 0x1e, 0xdc, 0x6f, 0x41}, true}, {[]byte{1, 0x1e, 0xdc, 0x6f, 0x40}, false},
		{[]byte{0, 0, 0}, false}, {[]byte{0, 0, 0, 0}, true}, {[]byte{0, 0, 0, 0, 0}, true},
		{nil, false}, {[]byte{}, false}, {[]byte{0}, false}, {[]byte{0, 0}, false}, {[]byte{1, 2, 3}, false},
		{[]byte{0, 0, 0, 1}, false}, {[]byte{0x1e, 0xdc, 0x6f, 0x41}, false}, {[]byte{0, 0, 1, 0x1e, 0xdc, 0x6f, 0x41}, true},
		{[]byte{1, 0x41, 0x6f, 0xdc, 0x1e}, false}, {[]byte{2, 0x1e, 0xdc, 0x6f, 0x41}, false},
		{[]byte{1, 0x1e, 0xdc, 0x6f, 0x41, 0}, true}, // times x to the 8: the generator still divides it
		{[]byte{1, 0x1e, 0xdc, 0x6f}, false},
	} {
		if got := crc.Valid(c.b); got != c.want {
			t.Errorf("Valid(%x): %v, want %v", c.b, got, c.want)
		}
	}
}

func TestValidIfTheGeneratorDivides(t *testing.T) {
	var all [][]byte
	for _, b := range lists() {
		sealed := crc.Seal(b)
		all = append(all, b, sealed, sealed[:len(sealed)-1], sealed[1:], append(bytes.Clone(sealed), 0), append(bytes.Clone(sealed), 1))
	}
	for _, b := range all {
		want := len(b) >= 4 && rest(new(big.Int).SetBytes(b)) == 0
		if got := crc.Valid(b); got != want {
			t.Errorf("Valid(%x): %v, want %v", b, got, want)
		}
	}
}

// R6, and R8 of the room behind the bytes.
func TestSealIsNewMemory(t *testing.T) {
	room := bytesOf(20, 9)
	before := bytes.Clone(room)
	got := crc.Seal(room[2:9])
	again := crc.Seal(room[2:9])
	want := crc.Seal(bytes.Clone(before[2:9]))
	if !bytes.Equal(room, before) {
		t.Fatalf("Seal wrote into what it was handed: %x, was %x", room, before)
	}
	for i := range got[:cap(got)] {
		got[:cap(got)][i] ^= 0xff
	}
	if !bytes.Equal(room, before) || !bytes.Equal(again, want) {
		t.Errorf("an answer shares memory: %x, was %x; %x, want %x", room, before, again, want)
	}
	for i := range room {
		room[i] ^= 0xff
	}
	if !bytes.Equal(again, want) {
		t.Errorf("an answer shares memory with its argument: %x, want %x", again, want)
	}
}

func TestArgumentsStay(t *testing.T) {
	room := bytesOf(40, 11)
	copy(room[3:], crc.Seal(room[3:22]))
	before := bytes.Clone(room)
	part := room[3:26]
	table, sliced := crc.NewTable(), crc.NewSliced()
	look := func() [4]uint32 {
		valid := uint32(0)
		if crc.Valid(part) {
			valid = 1
		}
		return [4]uint32{valid, crc.Bits(part), sum(t, table, part), sum(t, sliced, part)}
	}
	first := look()
	if first != [4]uint32{1, 0, 0, 0} {
		t.Errorf("of a sealed list: %v", first)
	}
	if !bytes.Equal(room, before) {
		t.Fatalf("what was handed in has changed: %x, was %x", room, before)
	}
	room[2], room[26] = ^room[2], ^room[26]
	if look() != first {
		t.Error("the room around the bytes has a say")
	}
	part[0] ^= 1 // the engines keep nothing of the bytes
	if look() == first || sum(t, table, part) != longCheck(part) || sum(t, sliced, part) != longCheck(part) {
		t.Error("the bytes' change isn't seen")
	}
}

// P2.4.

func TestJoinExamples(t *testing.T) {
	for _, c := range []struct {
		a, b uint32
		n    int
		want uint32
	}{
		{0x1edc6f41, 0x1edc6f41, 0, 0}, {0, 5, 7, 5}, {0, 0, 0, 0}, {0, 0, math.MaxInt, 0}, {5, 0, 0, 5}, {5, 9, 0, 0xc},
		{1, 0, 1, 0x100}, {1, 0, 3, 0x01000000}, {1, 0, 4, 0x1edc6f41}, {0x01000000, 0, 1, 0x1edc6f41}, {0x80000000, 3, 1, 0xc0c1d64c},
		{1, 0, order, 1}, {math.MaxUint32, 1, order, math.MaxUint32 - 1}, {1, 0, order + 1, 0x100},
		// 2^63 + 8 bits, 2^64, 2^65, 2^66 - 8: x to the 10, the 4, the 8 and the 8. All but the first don't fit into a word.
		{1, 0, 1<<60 + 1, 0x400}, {1, 0, 1 << 61, 0x10}, {1, 0, 1 << 62, 0x100}, {1, 0, math.MaxInt, 0x100},
	} {
		if got := join(t, c.a, c.b, c.n); got != c.want {
			t.Errorf("Join(%x, %x, %d): %x, want %x", c.a, c.b, c.n, got, c.want)
		}
	}
}

func TestJoinOfPieces(t *testing.T) {
	for _, whole := range lists() {
		want := longCheck(whole)
		for at := range len(whole) + 1 {
			a, b := crc.Bits(whole[:at]), crc.Bits(whole[at:])
			if got := join(t, a, b, len(whole)-at); got != want {
				t.Fatalf("Join(%x, %x, %d): %x, want %x", a, b, len(whole)-at, got, want)
			}
		}
	}
}

// A check says all of the bytes ahead: two lists with one check are joined alike, of unlike lengths, too.
func TestJoinOfUnlikeListsWithOneCheck(t *testing.T) {
	behind := bytesOf(13, 5)
	for _, b := range lists() {
		c := longCheck(b)
		// Four bytes that come to c: the check of four bytes is a one-to-one map, and x comes back to 1.
		p, _ := poly.PowMod(order-32, generator)
		q, _ := poly.MulMod(uint64(c), p, generator)
		other := []byte{byte(q >> 24), byte(q >> 16), byte(q >> 8), byte(q)}
		if crc.Bits(other) != c {
			t.Fatalf("Bits(%x): %x, want %x", other, crc.Bits(other), c)
		}
		got := join(t, c, crc.Bits(behind), len(behind))
		if got != longCheck(append(bytes.Clone(b), behind...)) || got != longCheck(append(other, behind...)) {
			t.Fatalf("Join(%x, .., 13): %x", c, got)
		}
	}
}

func TestJoinOfManyBytes(t *testing.T) {
	b := bytesOf(5, 2)
	for _, n := range []int{1 << 10, 1<<16 - 1, 1 << 20, 1<<20 + 3} {
		zeros := make([]byte, n)
		if got, want := join(t, crc.Bits(b), 0, n), libraryCheck(append(bytes.Clone(b), zeros...)); got != want {
			t.Errorf("Join(%x, 0, %d): %x, want %x", crc.Bits(b), n, got, want)
		}
	}
}

// Lengths that no list here can have: the power is squared and multiplied the long way.
func TestJoinOfGreatLengths(t *testing.T) {
	for _, n := range []int{1<<31 - 2, 1<<31 - 1, 1 << 31, 1 << 32, 1<<60 - 1, 1 << 60, 1<<60 + 1, 1<<61 - 1, 1 << 61, 3 << 60, 1<<62 + 12345, math.MaxInt - 1, math.MaxInt} {
		for _, a := range []uint32{0, 1, 2, 0x80000000, 0x1edc6f41, math.MaxUint32} {
			for _, b := range []uint32{0, 1, 0xdeadbeef} {
				want := rest(product(big.NewInt(int64(a)), power(n))) ^ b
				if got := join(t, a, b, n); got != want {
					t.Errorf("Join(%x, %x, %d): %x, want %x", a, b, n, got, want)
				}
			}
		}
	}
}

func product(p, q *big.Int) *big.Int {
	all := new(big.Int)
	for i := range q.BitLen() {
		if q.Bit(i) == 1 {
			all.Xor(all, new(big.Int).Lsh(p, uint(i)))
		}
	}
	return all
}

// power is x to the number of n bytes' bits, by the generator.
func power(n int) *big.Int {
	count := new(big.Int).Lsh(big.NewInt(int64(n)), 3)
	p := big.NewInt(1)
	for i := count.BitLen() - 1; i >= 0; i-- {
		p = product(p, p)
		if count.Bit(i) == 1 {
			p.Lsh(p, 1)
		}
		p = big.NewInt(int64(rest(p)))
	}
	return p
}

func TestJoinOfLessThanNothing(t *testing.T) {
	for _, n := range []int{-1, -2, -8, math.MinInt + 1, math.MinInt} {
		for _, a := range []uint32{0, 0x1edc6f41, math.MaxUint32} {
			for _, b := range []uint32{0, 1, math.MaxUint32} {
				if got, err := crc.Join(a, b, n); got != 0 || err != api.ErrRange {
					t.Errorf("Join(%x, %x, %d): %x, error %d", a, b, n, got, err)
				}
			}
		}
	}
}

// P2.5.

func TestChecksOfSums(t *testing.T) {
	table, sliced := crc.NewTable(), crc.NewSliced()
	for n := range 70 {
		for seed := range uint32(10) {
			a, b, both := bytesOf(n, seed), bytesOf(n, seed+77), make([]byte, n)
			for i := range both {
				both[i] = a[i] ^ b[i]
			}
			if got := crc.Bits(both); got != crc.Bits(a)^crc.Bits(b) {
				t.Fatalf("Bits(%x + %x): %x", a, b, got)
			}
			for _, e := range []engine{table, sliced} {
				if got := sum(t, e, both); got != sum(t, e, a)^sum(t, e, b) {
					t.Fatalf("%T: Sum(%x + %x): %x", e, a, b, got)
				}
			}
		}
	}
}

// What is a multiple of the generator isn't seen; it has 33 bits at least.
func TestPatternsThatKeepAListValid(t *testing.T) {
	for n := range 24 {
		sealed := crc.Seal(bytesOf(n, 21))
		for _, factor := range []uint32{1, 2, 3, 0x80, 0x1b, 0xffff, 0x80000001, math.MaxUint32} {
			pattern := product(big.NewInt(generator), big.NewInt(int64(factor)))
			for pattern.BitLen() <= 8*len(sealed) {
				turned := turnAll(sealed, pattern)
				if bytes.Equal(turned, sealed) || !crc.Valid(turned) {
					t.Fatalf("%x, turned by the generator's multiple %x, isn't valid", sealed, pattern)
				}
				other := new(big.Int).Xor(pattern, big.NewInt(1))
				if crc.Valid(turnAll(sealed, other)) {
					t.Fatalf("%x, turned by %x, is valid", sealed, other)
				}
				pattern.Lsh(pattern, 1)
			}
		}
	}
}

func TestValidBehindAnyPattern(t *testing.T) {
	for n := range 24 {
		sealed := crc.Seal(bytesOf(n, 33))
		for seed := range uint32(50) {
			pattern := bytesOf(len(sealed), seed)
			if seed%2 == 1 {
				pattern = crc.Seal(pattern[:n])
			}
			p := new(big.Int).SetBytes(pattern)
			if got, want := crc.Valid(turnAll(sealed, p)), rest(p) == 0; got != want {
				t.Fatalf("%x turned by %x: valid %v, want %v", sealed, pattern, got, want)
			}
		}
	}
}

// turnAll turns the bits of a pattern whose lowest one stands at the end.
func turnAll(b []byte, pattern *big.Int) []byte {
	out := pattern.FillBytes(make([]byte, len(b)))
	for i := range out {
		out[i] ^= b[i]
	}
	return out
}

// P6.

func TestThreeEnginesOneCheck(t *testing.T) {
	table, sliced := crc.NewTable(), crc.NewSliced()
	for n := range 200 {
		for seed := range uint32(20) {
			b := bytesOf(n, seed)
			want := libraryCheck(b)
			if a, s, d := crc.Bits(b), sum(t, table, b), sum(t, sliced, b); a != want || s != want || d != want {
				t.Fatalf("%x: %x %x %x, want %x", b, a, s, d, want)
			}
		}
	}
}

// unseen tells whether turned passes for a sealed list by any of the engines: its check would be nothing.
func unseen(t *testing.T, turned []byte, table, sliced engine) bool {
	return crc.Valid(turned) || crc.Bits(turned) == 0 || sum(t, table, turned) == 0 || sum(t, sliced, turned) == 0
}

// Bursts of each length up to 32 at each place of frames of each length that a
// unit has: the outer bits turned, what lies between them nothing, all, and some.
func TestBurstsAreSeen(t *testing.T) {
	table, sliced := crc.NewTable(), crc.NewSliced()
	for n := api.MinUnit; n <= api.MaxUnit; n++ {
		sealed := crc.Seal(bytesOf(n-4, uint32(n)))
		for length := 1; length <= api.MaxBurst; length++ {
			outer := uint32(1)<<31 | uint32(1)<<(32-length)
			inner := uint32(1)<<31 - uint32(1)<<(32-length)
			for _, middle := range []uint32{0, math.MaxUint32, 0xaaaaaaaa, 0x9e3779b9, 0x0f1e2d3c, 0x1edc6f41, 0x8f6e37a0} {
				for at := range 8*n - length + 1 {
					if turned := turn(sealed, at, outer|middle&inner); unseen(t, turned, table, sliced) {
						t.Fatalf("%x: a burst of %d bits at %d isn't seen", sealed, length, at)
					}
				}
			}
		}
	}
}

// All bursts of up to 16 bits in a short list, at each place.
func TestAllShortBurstsAreSeen(t *testing.T) {
	sealed := crc.Seal([]byte{0x35})
	for pattern := range uint32(1 << 15) {
		for at := range 8 * len(sealed) {
			if turned := turn(sealed, at, 1<<31|pattern<<16); crc.Valid(turned) {
				t.Fatalf("the burst %x at %d isn't seen", 1<<31|pattern<<16, at)
			}
		}
	}
}

func TestOddNumbersOfBitsAreSeen(t *testing.T) {
	table, sliced := crc.NewTable(), crc.NewSliced()
	sealed := crc.Seal(bytesOf(8, 4))
	n := 8 * len(sealed)
	for i := range n {
		for j := range i {
			for k := range j {
				if crc.Valid(flip(sealed, i, j, k)) {
					t.Fatalf("the bits %d, %d and %d, turned, aren't seen", i, j, k)
				}
			}
		}
	}
	for length := 0; length <= 23; length++ {
		sealed := crc.Seal(bytesOf(length, 5))
		for seed := range uint32(300) {
			pattern := bytesOf(len(sealed), seed)
			if weight(pattern)%2 == 0 {
				pattern[seed%uint32(len(pattern))] ^= 1 << (seed % 8)
			}
			if turned := turnAll(sealed, new(big.Int).SetBytes(pattern)); unseen(t, turned, table, sliced) {
				t.Fatalf("%x: %d bits (%x), turned, aren't seen", sealed, weight(pattern), pattern)
			}
		}
		all := bytes.Repeat([]byte{0xff}, len(sealed))
		all[0] = 0x7f // all bits but one
		if turned := turnAll(sealed, new(big.Int).SetBytes(all)); unseen(t, turned, table, sliced) {
			t.Fatalf("%x: all bits but the first, turned, aren't seen", sealed)
		}
	}
}

func weight(b []byte) int {
	n := 0
	for _, x := range b {
		n += bits.OnesCount8(x)
	}
	return n
}
