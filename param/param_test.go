package param_test

import (
	"bytes"
	"encoding/binary"
	"encoding/hex"
	"fmt"
	"hash/crc32"
	"math"
	"math/bits"
	"testing"

	"parapet/api"
	"parapet/crc"
	"parapet/param"
)

const most = math.MaxUint32

// example is the chapter's set.
var example = api.Param{Code: 7, Out: 2, In: 1, Watch: 10, Count: 100}

const (
	exampleBytes     = "00000007" + "02" + "01" + "0000000a" + "00000064"
	exampleSignature = 0xf8b45b50
)

// The edges that the document names, and numbers that would be others if some of their bits got lost.
var (
	codes   = []uint32{0, 1, 2, 255, 256, 0x01020304, 1 << 31, most - 1, most}
	sizes   = []int{math.MinInt, math.MinInt + 1, -1 << 32, -256, -255, -8, -1, 0, 1, 2, 4, 7, 8, 9, 10, 255, 256, 257, 264, 1<<32 + 1, 1<<32 + 8, math.MaxInt - 1, math.MaxInt}
	watches = []int{math.MinInt, math.MinInt + 1, -1<<32 + 1, -1 << 20, -1, 0, 1, 2, 10, 0x010203, 1<<20 - 1, 1 << 20, 1<<20 + 1, 1 << 24, 1<<31 - 1, 1 << 31, 1<<32 - 1, 1 << 32, 1<<32 + 1, 1<<32 + 10, 1<<32 + 1<<20, 1<<62 + 1, math.MaxInt - 1, math.MaxInt}
	counts  = []uint32{0, 1, 2, 3, 255, 256, 257, 0x0a0b0c0d, 1 << 31, most - 1, most}
)

// lawful is the chapter's word on it, field by field.
func lawful(p api.Param) bool {
	code := p.Code >= 1
	out := 1 <= p.Out && p.Out <= 8
	in := 1 <= p.In && p.In <= 8
	watch := 1 <= p.Watch && p.Watch <= 1048576
	count := p.Count >= 2
	return code && out && in && watch && count
}

// wanted is what is said of a set.
func wanted(p api.Param) api.Errno {
	if lawful(p) {
		return api.OK
	}
	return api.ErrParam
}

// unhex is what a text of base sixteen says.
func unhex(text string) []byte {
	b, err := hex.DecodeString(text)
	if err != nil {
		panic(err)
	}
	return b
}

// written is the fourteen bytes whose fields these are, lawful or not.
func written(code uint32, out, in byte, watch, count uint32) []byte {
	return unhex(fmt.Sprintf("%08x%02x%02x%08x%08x", code, out, in, watch, count))
}

// bytesOf is a lawful set's bytes.
func bytesOf(p api.Param) []byte {
	return written(p.Code, byte(p.Out), byte(p.In), uint32(p.Watch), p.Count)
}

// libraryCheck is the library's check by the same generator, which begins with
// all bits 1, ends with all of them turned, and has the bits in the other order.
func libraryCheck(b []byte) uint32 {
	turned := make([]byte, len(b))
	for i, x := range b {
		turned[i] = bits.Reverse8(x)
	}
	// Begun at its own turned start, it begins with all bits 0.
	return bits.Reverse32(^crc32.Update(most, castagnoli, turned))
}

var castagnoli = crc32.MakeTable(crc32.Castagnoli)

// steps gives numbers that look like chance, the same ones at each run.
type steps struct{ at uint64 }

func (s *steps) next() uint32 {
	s.at = s.at*6364136223846793005 + 1442695040888963407
	return uint32(s.at >> 32)
}

func (s *steps) below(n int) int { return int(s.next()) % n }

// word: as often a short number as a long one.
func (s *steps) word() uint32 { return s.next() >> s.below(32) }

// set: some lawful set.
func (s *steps) set() api.Param {
	return api.Param{
		Code:  max(1, s.word()),
		Out:   1 + s.below(8),
		In:    1 + s.below(8),
		Watch: 1 + s.below(1<<20)>>s.below(20),
		Count: max(2, s.word()),
	}
}

// sets: each lawful field's edges, beside each other's.
func sets() []api.Param {
	var out []api.Param
	for _, code := range []uint32{1, 0x01020304, most} {
		for size := 1; size <= 8; size++ {
			for _, in := range []int{1, 9 - size, 8} {
				for _, watch := range []int{1, 2, 256, 0x0a0b0c, 1 << 20} {
					for _, count := range []uint32{2, 3, 0x05060708, most} {
						out = append(out, api.Param{Code: code, Out: size, In: in, Watch: watch, Count: count})
					}
				}
			}
		}
	}
	return out
}

// holdSet holds the calls that take a set against the chapter's words.
func holdSet(t *testing.T, p api.Param) {
	want := wanted(p)
	if e := param.Check(p); e != want {
		t.Fatalf("P9.1: Check(%+v): %d, not %d", p, e, want)
	}
	b, e := param.Encode(p)
	if e != want {
		t.Fatalf("P9.1: Encode(%+v): %x, %d, not %d", p, b, e, want)
	}
	signature, e := param.Signature(p)
	if e != want {
		t.Fatalf("P9.2: Signature(%+v): %x, %d, not %d", p, signature, e, want)
	}
	if want != api.OK {
		holdRefused(t, p, b, signature)
		return
	}
	if !bytes.Equal(b, bytesOf(p)) {
		t.Fatalf("P9.1: Encode(%+v): %x, not %x", p, b, bytesOf(p))
	}
	check := libraryCheck(bytesOf(p))
	if signature != check {
		t.Fatalf("P9.2: Signature(%+v): %x, not %x", p, signature, check)
	}
	if ok, e := param.Match(p, fourOf(check)); !ok || e != api.OK {
		t.Fatalf("P9.2: Match(%+v, %08x): %v, %d", p, check, ok, e)
	}
	if ok, e := param.Match(p, fourOf(^check)); ok || e != api.OK {
		t.Fatalf("P9.2: Match(%+v, %08x): %v, %d", p, ^check, ok, e)
	}
}

// holdRefused: what stands beside the error, and that Match refuses whatever the data.
func holdRefused(t *testing.T, p api.Param, b []byte, signature uint32) {
	if len(b) != 0 || cap(b) != 0 || signature != 0 {
		t.Fatalf("R3: Encode, Signature(%+v): %x, %x beside ErrParam", p, b, signature)
	}
	for _, data := range [][]byte{nil, {}, make([]byte, 3), make([]byte, 4), make([]byte, 5), unhex("f8b45b50"), fourOf(libraryCheck(bytesOf(p)))} {
		if ok, e := param.Match(p, data); ok || e != api.ErrParam {
			t.Fatalf("P9.2: Match(%+v, %x): %v, %d, not false, ErrParam", p, data, ok, e)
		}
	}
}

// fourOf is a word's bytes, the highest first.
func fourOf(x uint32) []byte { return unhex(fmt.Sprintf("%08x", x)) }

// holdDecode holds what Decode makes of fourteen bytes that say so.
func holdDecode(t *testing.T, code uint32, out, in byte, watch, count uint32) {
	b := written(code, out, in, watch, count)
	p := api.Param{Code: code, Out: int(out), In: int(in), Watch: int(watch), Count: count}
	want := wanted(p)
	if want != api.OK {
		p = api.Param{}
	}
	if got, e := param.Decode(b); e != want || got != p {
		t.Fatalf("P9.1: Decode(%x): %+v, %d, not %+v, %d", b, got, e, p, want)
	}
	if want != api.OK {
		return
	}
	if again, e := param.Encode(p); e != api.OK || !bytes.Equal(again, b) {
		t.Fatalf("P9.3: Encode of Decode(%x): %x, %d", b, again, e)
	}
}

func TestExamples(t *testing.T) {
	holdSet(t, example)
	if b, e := param.Encode(example); e != api.OK || hex.EncodeToString(b) != exampleBytes {
		t.Errorf("P9.1: Encode(%+v): %x, %d", example, b, e)
	}
	if p, e := param.Decode(unhex(exampleBytes)); e != api.OK || p != example {
		t.Errorf("P9.1: Decode(%s): %+v, %d", exampleBytes, p, e)
	}
	if s, e := param.Signature(example); e != api.OK || s != exampleSignature {
		t.Errorf("P9.2: Signature(%+v): %x, %d", example, s, e)
	}
	for _, spoil := range []func(*api.Param){
		func(p *api.Param) { p.Count = 1 },
		func(p *api.Param) { p.Out = 0 },
		func(p *api.Param) { p.Out = 9 },
		func(p *api.Param) { p.Code = 0 },
		func(p *api.Param) { p.Watch = 0 },
		func(p *api.Param) { p.Watch = 1<<20 + 1 },
	} {
		p := example
		spoil(&p)
		if e := param.Check(p); e != api.ErrParam {
			t.Errorf("P9.1: Check(%+v): %d, not ErrParam", p, e)
		}
		holdSet(t, p)
	}
	if p, e := param.Decode(unhex(exampleBytes)[:13]); e != api.ErrLength || p != (api.Param{}) {
		t.Errorf("P9.1: Decode of 13 bytes: %+v, %d", p, e)
	}
	if ok, e := param.Match(example, []byte{0xf8, 0xb4, 0x5b, 0x50}); !ok || e != api.OK {
		t.Errorf("P9.2: Match of the signature: %v, %d", ok, e)
	}
	if ok, e := param.Match(example, []byte{0xf8, 0xb4, 0x5b, 0x50, 0}); ok || e != api.OK {
		t.Errorf("P9.2: Match of the signature and one more: %v, %d", ok, e)
	}
}

// Each field at its edges in a set that is lawful beside it.
func TestOneField(t *testing.T) {
	for _, p := range []api.Param{example, {Code: 1, Out: 1, In: 1, Watch: 1, Count: 2}, {Code: most, Out: 8, In: 8, Watch: 1 << 20, Count: most}} {
		holdSet(t, p)
		for _, code := range codes {
			q := p
			q.Code = code
			holdSet(t, q)
		}
		for _, n := range sizes {
			q, r := p, p
			q.Out, r.In = n, n
			holdSet(t, q)
			holdSet(t, r)
		}
		for _, watch := range watches {
			q := p
			q.Watch = watch
			holdSet(t, q)
		}
		for _, count := range counts {
			q := p
			q.Count = count
			holdSet(t, q)
		}
	}
}

// Which of the edges are lawful, written out: a model that errs with the program would not see it.
func TestTheEdgesByName(t *testing.T) {
	for _, c := range []struct {
		p    api.Param
		want api.Errno
	}{
		{api.Param{Code: 1, Out: 1, In: 1, Watch: 1, Count: 2}, api.OK},
		{api.Param{Code: most, Out: api.MaxData, In: api.MaxData, Watch: api.MaxTicks, Count: most}, api.OK},
		{api.Param{Code: 0, Out: 1, In: 1, Watch: 1, Count: 2}, api.ErrParam},
		{api.Param{Code: 1, Out: 0, In: 1, Watch: 1, Count: 2}, api.ErrParam},
		{api.Param{Code: 1, Out: -1, In: 1, Watch: 1, Count: 2}, api.ErrParam},
		{api.Param{Code: 1, Out: api.MaxData + 1, In: 1, Watch: 1, Count: 2}, api.ErrParam},
		{api.Param{Code: 1, Out: 1, In: 0, Watch: 1, Count: 2}, api.ErrParam},
		{api.Param{Code: 1, Out: 1, In: -1, Watch: 1, Count: 2}, api.ErrParam},
		{api.Param{Code: 1, Out: 1, In: api.MaxData + 1, Watch: 1, Count: 2}, api.ErrParam},
		{api.Param{Code: 1, Out: 257, In: 1, Watch: 1, Count: 2}, api.ErrParam},
		{api.Param{Code: 1, Out: 1, In: 257, Watch: 1, Count: 2}, api.ErrParam},
		{api.Param{Code: 1, Out: math.MinInt, In: math.MinInt, Watch: math.MinInt, Count: 2}, api.ErrParam},
		{api.Param{Code: 1, Out: math.MaxInt, In: math.MaxInt, Watch: math.MaxInt, Count: 2}, api.ErrParam},
		{api.Param{Code: 1, Out: 1, In: 1, Watch: 0, Count: 2}, api.ErrParam},
		{api.Param{Code: 1, Out: 1, In: 1, Watch: -1, Count: 2}, api.ErrParam},
		{api.Param{Code: 1, Out: 1, In: 1, Watch: api.MaxTicks + 1, Count: 2}, api.ErrParam},
		{api.Param{Code: 1, Out: 1, In: 1, Watch: 1<<32 + 1, Count: 2}, api.ErrParam},
		{api.Param{Code: 1, Out: 1, In: 1, Watch: -1<<32 + 1, Count: 2}, api.ErrParam},
		{api.Param{Code: 1, Out: 1, In: 1, Watch: 1, Count: 1}, api.ErrParam},
		{api.Param{Code: 1, Out: 1, In: 1, Watch: 1, Count: 0}, api.ErrParam},
		{api.Param{}, api.ErrParam},
	} {
		if e := param.Check(c.p); e != c.want {
			t.Errorf("P9.1: Check(%+v): %d, not %d", c.p, e, c.want)
		}
		if e := wanted(c.p); e != c.want {
			t.Errorf("the model says of %+v: %d, not %d", c.p, e, c.want)
		}
		holdSet(t, c.p)
	}
}

// Every field at each of its edges beside every other field at each of its own.
func TestAllFieldsTogether(t *testing.T) {
	for _, code := range codes {
		for _, out := range sizes {
			for _, in := range sizes {
				for _, watch := range watches {
					for _, count := range counts {
						p := api.Param{Code: code, Out: out, In: in, Watch: watch, Count: count}
						if e := param.Check(p); e != wanted(p) {
							t.Fatalf("P9.1: Check(%+v): %d, not %d", p, e, wanted(p))
						}
					}
				}
			}
		}
	}
}

// Several fields unlawful at once, at all the calls.
func TestSeveralWrong(t *testing.T) {
	wrong := []func(*api.Param){
		func(p *api.Param) { p.Code = 0 },
		func(p *api.Param) { p.Out = 0 },
		func(p *api.Param) { p.Out = 9 },
		func(p *api.Param) { p.In = -1 },
		func(p *api.Param) { p.In = 264 },
		func(p *api.Param) { p.Watch = 0 },
		func(p *api.Param) { p.Watch = 1<<32 + 10 },
		func(p *api.Param) { p.Count = 0 },
		func(p *api.Param) { p.Count = 1 },
	}
	for some := 1; some < 1<<len(wrong); some++ {
		p := example
		for i, spoil := range wrong {
			if some>>i&1 == 1 {
				spoil(&p)
			}
		}
		if lawful(p) {
			t.Fatalf("%+v is lawful", p)
		}
		holdSet(t, p)
	}
}

func TestLawfulSets(t *testing.T) {
	for _, p := range sets() {
		if !lawful(p) {
			t.Fatalf("%+v isn't lawful", p)
		}
		holdSet(t, p)
	}
	s := &steps{at: 9}
	for range 20000 {
		holdSet(t, s.set())
	}
}

// Each byte of each field at its place: a set in which no two bytes say the same.
func TestPlaces(t *testing.T) {
	p := api.Param{Code: 0xa1a2a3a4, Out: 5, In: 6, Watch: 0x000708f9, Count: 0xb1b2b3b4}
	b, e := param.Encode(p)
	if want := "a1a2a3a40506000708f9b1b2b3b4"; e != api.OK || hex.EncodeToString(b) != want {
		t.Fatalf("P9.1: Encode(%+v): %x, %d, not %s", p, b, e, want)
	}
	if got, e := param.Decode(b); e != api.OK || got != p {
		t.Fatalf("P9.1: Decode(%x): %+v, %d, not %+v", b, got, e, p)
	}
}

// Each bit that a lawful field may have alone, in the bytes of an elsewhere plain set.
func TestEachBit(t *testing.T) {
	least := api.Param{Code: 1, Out: 1, In: 1, Watch: 1, Count: 2}
	for i := range 32 {
		p, q := least, least
		p.Code, q.Count = 1<<i, 1<<i
		holdSet(t, p)
		holdSet(t, q)
		holdDecode(t, 1<<i, 1, 1, 1, 2)
		holdDecode(t, 1, 1, 1, 1<<i, 2)
		holdDecode(t, 1, 1, 1, 1, 1<<i)
	}
	for i := range 63 {
		p := least
		p.Watch = 1 << i
		holdSet(t, p)
	}
	for i := range 8 {
		holdDecode(t, 1, 1<<i, 1, 1, 2)
		holdDecode(t, 1, 1, 1<<i, 1, 2)
	}
}

func TestDecodeLengths(t *testing.T) {
	whole := unhex(exampleBytes)
	for n := range 70 {
		for _, b := range [][]byte{make([]byte, n), bytes.Repeat(whole, 5)[:n], bytes.Repeat([]byte{255}, n), bytes.Repeat([]byte{1}, n)} {
			want, set := api.ErrLength, api.Param{}
			switch {
			case n == 14 && bytes.Equal(b, whole):
				want, set = api.OK, example
			case n == 14:
				// Of the others none says a lawful Watch.
				want = api.ErrParam
			}
			if p, e := param.Decode(b); e != want || p != set {
				t.Errorf("P9.1: Decode(%x): %+v, %d, not %+v, %d", b, p, e, set, want)
			}
		}
	}
	for _, n := range []int{28, 256 + 14, 1 << 16, 1<<16 + 14, 1<<20 + 14} {
		b := make([]byte, n)
		copy(b, whole)
		if p, e := param.Decode(b); e != api.ErrLength || p != (api.Param{}) {
			t.Errorf("P9.1: Decode of %d bytes: %+v, %d, not ErrLength", n, p, e)
		}
	}
	for _, none := range [][]byte{nil, {}, whole[:0]} {
		if p, e := param.Decode(none); e != api.ErrLength || p != (api.Param{}) {
			t.Errorf("P9.1: Decode of no bytes: %+v, %d, not ErrLength", p, e)
		}
	}
}

// Spare room says nothing: bytes that stand behind a list don't belong to it.
func TestDecodeShortListsWithRoom(t *testing.T) {
	whole := unhex(exampleBytes + exampleBytes)
	for n := range 28 {
		p, e := param.Decode(whole[:n])
		switch {
		case n == 14 && (e != api.OK || p != example):
			t.Errorf("P9.1: Decode of the first 14 bytes of 28: %+v, %d", p, e)
		case n != 14 && (e != api.ErrLength || p != api.Param{}):
			t.Errorf("P9.1: Decode of the first %d bytes of 28: %+v, %d, not ErrLength", n, p, e)
		}
	}
}

// A field's bytes with each field at its edge and at the greatest that its bytes can say.
func TestDecodeEdges(t *testing.T) {
	words := []uint32{0, 1, 2, 0x01020304, 1 << 31, most}
	said := []byte{0, 1, 8, 9, 128, 255}
	ticks := []uint32{0, 1, 0x00010203, 1 << 20, 1<<20 + 1, 1 << 24, 1 << 31, most}
	for _, code := range words {
		for _, out := range said {
			for _, in := range said {
				for _, watch := range ticks {
					for _, count := range words {
						holdDecode(t, code, out, in, watch, count)
					}
				}
			}
		}
	}
}

// Every pair of sizes that two bytes can say, and every number of ticks about the greatest.
func TestDecodeEveryByte(t *testing.T) {
	for out := range 256 {
		for in := range 256 {
			holdDecode(t, 7, byte(out), byte(in), 10, 100)
		}
	}
	for i := range 2000 {
		holdDecode(t, 7, 2, 1, uint32(1<<20-1000+i), 100)
		holdDecode(t, 7, 2, 1, uint32(i), 100)
		holdDecode(t, 7, 2, 1, 10, uint32(i))
		holdDecode(t, uint32(i), 2, 1, 10, 100)
	}
}

func TestThereAndBack(t *testing.T) {
	s := &steps{at: 27}
	some := sets()
	for range 30000 {
		some = append(some, s.set())
	}
	for _, p := range some {
		b, e := param.Encode(p)
		if e != api.OK || len(b) != 14 {
			t.Fatalf("P9.1: Encode(%+v): %x, %d", p, b, e)
		}
		if back, e := param.Decode(b); e != api.OK || back != p {
			t.Fatalf("P9.3: Decode of Encode(%+v): %+v, %d", p, back, e)
		}
	}
}

// Bytes of all kinds, most of them close to a set's: those that Decode takes are the set's own.
func TestBackAndThere(t *testing.T) {
	s := &steps{at: 3}
	taken := 0
	for range 60000 {
		b := bytesOf(s.set())
		for range s.below(4) {
			b[s.below(14)] ^= 1 << s.below(8)
		}
		word := binary.BigEndian.Uint32
		holdDecode(t, word(b), b[4], b[5], word(b[6:]), word(b[10:]))
		if p, e := param.Decode(b); e == api.OK {
			taken++
			holdSet(t, p)
		}
	}
	if taken < 20000 || taken > 59000 {
		t.Errorf("%d of 60000 lists were taken: too one-sided", taken)
	}
}

// The signature is layer 2's check of layer 9's bytes.
func TestSignatureIsTheCheck(t *testing.T) {
	for _, p := range sets() {
		b, _ := param.Encode(p)
		if s, e := param.Signature(p); e != api.OK || s != crc.Bits(b) {
			t.Fatalf("P9.2: Signature(%+v): %x, %d, not %x", p, s, e, crc.Bits(b))
		}
	}
}

func TestBytes(t *testing.T) {
	for _, c := range []struct {
		x    uint32
		want string
	}{
		{0, "00000000"},
		{1, "00000001"},
		{most, "ffffffff"},
		{1 << 31, "80000000"},
		{0x01020304, "01020304"},
		{0xfedcba98, "fedcba98"},
		{exampleSignature, "f8b45b50"},
	} {
		if got := param.Bytes(c.x); hex.EncodeToString(got) != c.want {
			t.Errorf("P9.2: Bytes(%08x): %x", c.x, got)
		}
	}
	for i := range 32 {
		if got := param.Bytes(1 << i); !bytes.Equal(got, fourOf(1<<i)) {
			t.Errorf("P9.2: Bytes(%08x): %x", uint32(1)<<i, got)
		}
	}
	s := &steps{at: 4}
	for range 5000 {
		x := s.word()
		if got := param.Bytes(x); !bytes.Equal(got, fourOf(x)) {
			t.Fatalf("P9.2: Bytes(%08x): %x", x, got)
		}
	}
}

// holdMatch: whether data match a lawful set.
func holdMatch(t *testing.T, p api.Param, data []byte, want bool) {
	if ok, e := param.Match(p, data); ok != want || e != api.OK {
		t.Fatalf("P9.2: Match(%+v, %x): %v, %d, not %v", p, data, ok, e, want)
	}
}

func TestMatch(t *testing.T) {
	s := &steps{at: 5}
	some := []api.Param{example, {Code: 1, Out: 1, In: 1, Watch: 1, Count: 2}, {Code: most, Out: 8, In: 8, Watch: 1 << 20, Count: most}}
	for range 300 {
		some = append(some, s.set())
	}
	for _, p := range some {
		four := fourOf(libraryCheck(bytesOf(p)))
		holdMatch(t, p, four, true)
		holdMatch(t, p, nil, false)
		holdMatch(t, p, []byte{}, false)
		for n := range 4 {
			holdMatch(t, p, four[:n], false)
			holdMatch(t, p, four[4-n:], false)
		}
		for _, more := range [][]byte{{0}, {255}, four[:1], four, make([]byte, 4), make([]byte, 252), make([]byte, 256)} {
			holdMatch(t, p, append(bytes.Clone(four), more...), false)
			holdMatch(t, p, append(bytes.Clone(more), four...), false)
		}
		for i := range 32 {
			turned := bytes.Clone(four)
			turned[i/8] ^= 0x80 >> (i % 8)
			holdMatch(t, p, turned, false)
		}
		holdOrders(t, p, four)
		holdMatch(t, p, bytesOf(p), false)
	}
}

// holdOrders: the four bytes in every order; only those that say the same match.
func holdOrders(t *testing.T, p api.Param, four []byte) {
	for i := range 256 {
		at := [4]int{i & 3, i >> 2 & 3, i >> 4 & 3, i >> 6}
		data := []byte{four[at[0]], four[at[1]], four[at[2]], four[at[3]]}
		holdMatch(t, p, data, bytes.Equal(data, four))
	}
}

// Another field of the set, another signature: of sets this close none has the same.
func TestMatchOfAnotherSet(t *testing.T) {
	for _, spoil := range []func(*api.Param){
		func(p *api.Param) { p.Code++ },
		func(p *api.Param) { p.Code += 1 << 24 },
		func(p *api.Param) { p.Out++ },
		func(p *api.Param) { p.In++ },
		func(p *api.Param) { p.Out, p.In = p.In, p.Out },
		func(p *api.Param) { p.Watch++ },
		func(p *api.Param) { p.Watch += 1 << 19 },
		func(p *api.Param) { p.Count++ },
		func(p *api.Param) { p.Count += 1 << 24 },
	} {
		p := example
		spoil(&p)
		holdMatch(t, p, unhex("f8b45b50"), false)
		holdMatch(t, example, fourOf(libraryCheck(bytesOf(p))), false)
	}
}

// A signature of which bytes are 0: no length stands for another.
func TestMatchOfShortSignatures(t *testing.T) {
	p := example
	seen := 0
	for count := uint32(2); seen < 3 && count < 1<<16; count++ {
		p.Count = count
		s := libraryCheck(bytesOf(p))
		if s&255 != 0 && s>>24 != 0 {
			continue
		}
		seen++
		four := fourOf(s)
		holdMatch(t, p, four, true)
		holdMatch(t, p, bytes.TrimRight(four, "\x00"), s&255 != 0)
		holdMatch(t, p, bytes.TrimLeft(four, "\x00"), s>>24 != 0)
		holdMatch(t, p, append([]byte{0}, four...), false)
		holdMatch(t, p, append(four, 0), false)
	}
	if seen < 3 {
		t.Errorf("%d signatures with a byte 0 at an end were tried", seen)
	}
}
