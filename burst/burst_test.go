package burst_test

import (
	"bytes"
	"fmt"
	"math"
	"math/big"
	"math/bits"
	"slices"
	"strconv"
	"strings"
	"testing"

	"parapet/api"
	"parapet/burst"
	"parapet/crc"
)

// bytesOf: n bytes, the same at each run; another seed gives others.
func bytesOf(n int, seed uint32) []byte {
	b := make([]byte, n)
	for i := range b {
		seed = seed*1664525 + 1013904223
		b[i] = byte(seed >> 24)
	}
	return b
}

// digits writes bytes as the document counts their bits: the first byte's highest one stands first.
func digits(b []byte) string {
	var s strings.Builder
	for _, x := range b {
		fmt.Fprintf(&s, "%08b", x)
	}
	return s.String()
}

// ofDigits is the way back, through a number without a greatest size.
func ofDigits(s string) []byte {
	if s == "" {
		return []byte{}
	}
	v, ok := new(big.Int).SetString(s, 2)
	if !ok || len(s)%8 != 0 {
		panic("no digits of whole bytes: " + s)
	}
	return v.FillBytes(make([]byte, len(s)/8))
}

// ones: the places of the digit 1.
func ones(s string) []int {
	var places []int
	for i, c := range s {
		if c == '1' {
			places = append(places, i)
		}
	}
	return places
}

// patterns: none and one bit at every place, lengths up to 40 with all manner of bits, and long ones.
func patterns() [][]byte {
	out := [][]byte{
		nil, {}, {0}, {0, 0}, {0, 0, 0, 0, 0}, {0xff}, {0xff, 0xff, 0xff}, {0x80, 1}, {1, 0x80}, {0x80, 0, 0, 0, 1},
		{0, 1, 0, 0x80, 0}, {0, 0, 0xff, 0, 0}, {0xff, 0, 0xff}, {0, 0x55, 0xaa, 0},
	}
	for place := range 8 * 6 {
		e := make([]byte, 6)
		e[place/8] = 1 << (7 - place%8)
		out = append(out, e)
	}
	for n := range 41 {
		e := bytesOf(n, uint32(n))
		out = append(out, e)
		out = append(out, slices.Concat(make([]byte, n%5), e, make([]byte, n%3)))
	}
	long := make([]byte, api.MaxSpan)
	long[0], long[api.MaxSpan-1] = 0x80, 1
	return append(out, bytesOf(1000, 5), bytesOf(api.MaxSpan, 6), make([]byte, api.MaxSpan), long)
}

// short is enough of a pattern to tell which one it was.
func short(b []byte) string {
	if len(b) > 50 {
		return fmt.Sprintf("%x.. (%d bytes)", b[:50], len(b))
	}
	return fmt.Sprintf("%x", b)
}

// holdPattern holds everything that is asked of a pattern against its digits.
func holdPattern(t *testing.T, e []byte) {
	t.Helper()
	s := digits(e)
	first, last, span := strings.Index(s, "1"), strings.LastIndex(s, "1"), 0
	if first >= 0 {
		span = len(s[first : last+1])
	}
	if got := burst.First(e); got != first {
		t.Errorf("P3.1: First(%s): %d, not %d", short(e), got, first)
	}
	if got := burst.Last(e); got != last {
		t.Errorf("P3.1: Last(%s): %d, not %d", short(e), got, last)
	}
	if got := burst.Span(e); got != span {
		t.Errorf("P3.1: Span(%s): %d, not %d", short(e), got, span)
	}
	if got, want := burst.Weight(e), strings.Count(s, "1"); got != want {
		t.Errorf("P3.1: Weight(%s): %d, not %d", short(e), got, want)
	}
	if got, want := burst.Parts(e), ones(s); !slices.Equal(got, want) {
		t.Errorf("P3.1: Parts(%s): %d places, not the %d where a bit is 1", short(e), len(got), len(want))
	}
}

func TestPatternExamples(t *testing.T) {
	e := []byte{0, 0x10}
	if got := burst.First(e); got != 11 {
		t.Errorf("P3.1: First: %d", got)
	}
	if got := burst.Last(e); got != 11 {
		t.Errorf("P3.1: Last: %d", got)
	}
	if got := burst.Span(e); got != 1 {
		t.Errorf("P3.1: Span: %d", got)
	}
	if got := burst.Weight(e); got != 1 {
		t.Errorf("P3.1: Weight: %d", got)
	}
	if got := burst.Parts(e); !slices.Equal(got, []int{11}) {
		t.Errorf("P3.1: Parts: %v", got)
	}
	e = []byte{2, 0x80}
	if first, span := burst.First(e), burst.Span(e); first != 6 || span != 3 {
		t.Errorf("P3.1: First, Span of 02 80: %d, %d", first, span)
	}
}

func TestNoBitIsOne(t *testing.T) {
	for _, e := range [][]byte{nil, {}, {0}, {0, 0, 0}, make([]byte, api.MaxSpan)} {
		first, last, span, weight := burst.First(e), burst.Last(e), burst.Span(e), burst.Weight(e)
		if first != -1 || last != -1 || span != 0 || weight != 0 {
			t.Errorf("P3.1: %d bytes 0: %d, %d, %d, %d, not -1, -1, 0, 0", len(e), first, last, span, weight)
		}
		if got := burst.Parts(e); len(got) != 0 {
			t.Errorf("P3.1: Parts of %d bytes 0: %v", len(e), got)
		}
	}
}

func TestOneBit(t *testing.T) {
	for n := 1; n <= 10; n++ {
		for place := range 8 * n {
			e := make([]byte, n)
			e[place/8] = 0x80 >> (place % 8)
			first, last, span, weight := burst.First(e), burst.Last(e), burst.Span(e), burst.Weight(e)
			if first != place || last != place || span != 1 || weight != 1 || !slices.Equal(burst.Parts(e), []int{place}) {
				t.Errorf("P3.1: %d bytes, the bit %d: %d, %d, %d, %d, %v", n, place, first, last, span, weight, burst.Parts(e))
			}
		}
	}
}

func TestFirstAndLastPlace(t *testing.T) {
	for _, n := range []int{1, 2, 9, api.MaxSpan} {
		e := make([]byte, n)
		e[0] |= 0x80
		e[n-1] |= 1
		first, last, span, weight := burst.First(e), burst.Last(e), burst.Span(e), burst.Weight(e)
		if first != 0 || last != 8*n-1 || span != 8*n || weight != 2 || !slices.Equal(burst.Parts(e), []int{0, 8*n - 1}) {
			t.Errorf("P3.1: %d bytes, the outermost bits: %d, %d, %d, %d, %v", n, first, last, span, weight, burst.Parts(e))
		}
	}
}

func TestPatterns(t *testing.T) {
	for _, e := range patterns() {
		holdPattern(t, e)
	}
}

func TestEveryPatternOfTwoBytes(t *testing.T) {
	for x := range 1 << 16 {
		holdPattern(t, []byte{byte(x >> 8), byte(x)})
		if t.Failed() {
			return
		}
	}
}

func TestPartsAgree(t *testing.T) {
	for _, e := range patterns() {
		parts := burst.Parts(e)
		if len(parts) != burst.Weight(e) {
			t.Errorf("P3.4: %s: %d parts, Weight %d", short(e), len(parts), burst.Weight(e))
		}
		if !slices.IsSorted(parts) || len(slices.Compact(slices.Clone(parts))) != len(parts) {
			t.Errorf("P3.1: Parts(%s) don't rise", short(e))
		}
		first, last := -1, -1
		if len(parts) > 0 {
			first, last = parts[0], parts[len(parts)-1]
		}
		if first != burst.First(e) || last != burst.Last(e) {
			t.Errorf("P3.4: %s: parts from %d to %d, First %d, Last %d", short(e), first, last, burst.First(e), burst.Last(e))
		}
	}
}

func TestMakeExamples(t *testing.T) {
	for _, c := range []struct {
		n, at int
		word  uint32
		want  []byte
		e     api.Errno
	}{
		{2, 6, 5, []byte{2, 0x80}, api.OK},
		{1, 7, 1, []byte{1}, api.OK},
		{1, 8, 1, nil, api.ErrBurst},
		{1, 0, 0x100, nil, api.ErrBurst},
		{1, 0, 0, nil, api.ErrBurst},
		{1, -1, 1, nil, api.ErrBurst},
		{-1, 0, 1, nil, api.ErrRange},
	} {
		holdMake(t, c.n, c.at, c.word, c.want, c.e)
	}
}

// holdMake holds one call of Make against what is wanted of it.
func holdMake(t *testing.T, n, at int, word uint32, want []byte, wantCode api.Errno) {
	t.Helper()
	got, e := burst.Make(n, at, word)
	if e != wantCode || !bytes.Equal(got, want) {
		t.Errorf("P3.2: Make(%d, %d, %x): %s, %d, not %s, %d", n, at, word, short(got), e, short(want), wantCode)
	}
}

// makeLong is Make by digits; n is in its range.
func makeLong(n, at int, word uint32) ([]byte, api.Errno) {
	s := strconv.FormatUint(uint64(word), 2)
	if word == 0 || at < 0 || at > 8*n || at+len(s) > 8*n {
		return nil, api.ErrBurst
	}
	return ofDigits(strings.Repeat("0", at) + s + strings.Repeat("0", 8*n-at-len(s))), api.OK
}

// words: each length from 1 to 32, the shortest and the fullest of it, and some between.
func words() []uint32 {
	out := []uint32{0, 5, 0x55, 0xaa, 0x100, 0x1edc6f41, 0x80000001, 0xaaaaaaaa, 0x55555555, 0xdeadbeef}
	for i := range 32 {
		out = append(out, 1<<i, math.MaxUint32>>i, 1<<i|1)
	}
	return out
}

func TestMakeEverywhere(t *testing.T) {
	for n := range 10 {
		for at := -3; at <= 8*n+3; at++ {
			for _, word := range words() {
				want, e := makeLong(n, at, word)
				holdMake(t, n, at, word, want, e)
			}
		}
	}
}

func TestMakeEveryShortWord(t *testing.T) {
	for word := range uint32(1 << 10) {
		for at := range 17 {
			want, e := makeLong(2, at, word)
			holdMake(t, 2, at, word, want, e)
		}
	}
}

func TestMakeEndsWithTheBytes(t *testing.T) {
	for _, n := range []int{1, 2, 4, 5, 64, api.MaxSpan} {
		for _, word := range words() {
			at := 8*n - bits.Len32(word)
			if word == 0 || at < 0 {
				continue
			}
			want := make([]byte, n)
			for i := range min(n, 4) {
				want[n-1-i] = byte(word >> (8 * i))
			}
			holdMake(t, n, at, word, want, api.OK)
			holdMake(t, n, at+1, word, nil, api.ErrBurst)
		}
	}
}

func TestMakeWhatItSays(t *testing.T) {
	for n := 1; n <= 9; n++ {
		for _, word := range words() {
			long := bits.Len32(word)
			for at := 0; word != 0 && at+long <= 8*n; at++ {
				e, code := burst.Make(n, at, word)
				if code != api.OK || len(e) != n {
					t.Fatalf("P3.2: Make(%d, %d, %x): %d bytes, %d", n, at, word, len(e), code)
				}
				span := long - bits.TrailingZeros32(word)
				if burst.First(e) != at || burst.Span(e) != span || burst.Weight(e) != bits.OnesCount32(word) {
					t.Errorf("P3.2: Make(%d, %d, %x): %x", n, at, word, e)
				}
			}
		}
	}
}

func TestMakeRange(t *testing.T) {
	for _, n := range []int{-1, -2, -8, math.MinInt, math.MinInt + 1, api.MaxSpan + 1, 1 << 61, 1<<61 + 1, math.MaxInt} {
		// ErrRange is looked for first: the other arguments may be wrong, too.
		for _, at := range []int{0, 1, -1, 7, math.MaxInt, math.MinInt} {
			for _, word := range []uint32{0, 1, math.MaxUint32} {
				holdMake(t, n, at, word, nil, api.ErrRange)
			}
		}
	}
}

func TestMakeGreatest(t *testing.T) {
	want := make([]byte, api.MaxSpan)
	want[0] = 0x80
	holdMake(t, api.MaxSpan, 0, 1, want, api.OK)
	want[0], want[api.MaxSpan-1] = 0, 1
	holdMake(t, api.MaxSpan, 8*api.MaxSpan-1, 1, want, api.OK)
	holdMake(t, api.MaxSpan, 8*api.MaxSpan, 1, nil, api.ErrBurst)
	holdMake(t, api.MaxSpan, 0, 0, nil, api.ErrBurst)
	holdMake(t, api.MaxSpan, -1, 1, nil, api.ErrBurst)
}

func TestMakeNoBytes(t *testing.T) {
	for _, at := range []int{-1, 0, 1, math.MinInt, math.MaxInt} {
		for _, word := range []uint32{0, 1, math.MaxUint32} {
			holdMake(t, 0, at, word, nil, api.ErrBurst)
		}
	}
}

func TestMakeBurst(t *testing.T) {
	for _, n := range []int{1, 3, 4, 5, api.MaxSpan} {
		for _, at := range []int{-1, -32, math.MinInt, math.MinInt + 32, 8*n + 1, math.MaxInt, math.MaxInt - 1, math.MaxInt - 30, math.MaxInt - 31, math.MaxInt - 32} {
			for _, word := range []uint32{0, 1, 0x80000000, math.MaxUint32} {
				holdMake(t, n, at, word, nil, api.ErrBurst)
			}
		}
		holdMake(t, n, 0, 0, nil, api.ErrBurst)
	}
}

func TestMakeHighestBit(t *testing.T) {
	for _, c := range []struct {
		n, at int
		word  uint32
		want  []byte
		e     api.Errno
	}{
		{4, 0, 0x80000000, []byte{0x80, 0, 0, 0}, api.OK},
		{4, 0, 0xffffffff, []byte{0xff, 0xff, 0xff, 0xff}, api.OK},
		{4, 1, 0x80000000, nil, api.ErrBurst},
		{3, 0, 0x80000000, nil, api.ErrBurst},
		{5, 0, 0x80000001, []byte{0x80, 0, 0, 1, 0}, api.OK},
		{5, 1, 0x80000001, []byte{0x40, 0, 0, 0, 0x80}, api.OK},
		{5, 8, 0x80000001, []byte{0, 0x80, 0, 0, 1}, api.OK},
		{5, 9, 0x80000001, nil, api.ErrBurst},
		{5, 4, 0xffffffff, []byte{0x0f, 0xff, 0xff, 0xff, 0xf0}, api.OK},
	} {
		holdMake(t, c.n, c.at, c.word, c.want, c.e)
	}
}

func TestTurnExamples(t *testing.T) {
	got, e := burst.Turn([]byte{0x0f, 0xf0}, []byte{2, 0x80})
	if e != api.OK || !bytes.Equal(got, []byte{0x0d, 0x70}) {
		t.Errorf("P3.3: Turn(0f f0, 02 80): %x, %d", got, e)
	}
	got, e = burst.Turn([]byte{0}, []byte{0, 0})
	if e != api.ErrSize || len(got) != 0 {
		t.Errorf("P3.3: Turn(00, 00 00): %x, %d", got, e)
	}
}

// turned is Turn, digit by digit.
func turned(b, e []byte) []byte {
	from, by := digits(b), digits(e)
	var s strings.Builder
	for i := range from {
		digit := from[i]
		if by[i] == '1' {
			digit = '0' + '1' - digit
		}
		s.WriteByte(digit)
	}
	return ofDigits(s.String())
}

func TestTurn(t *testing.T) {
	for i, e := range patterns() {
		b := bytesOf(len(e), uint32(i)+77)
		got, code := burst.Turn(b, e)
		if code != api.OK || len(got) != len(b) || !bytes.Equal(got, turned(b, e)) {
			t.Errorf("P3.3: Turn(%s, %s): %s, %d", short(b), short(e), short(got), code)
		}
		back, code := burst.Turn(got, e)
		if code != api.OK || !bytes.Equal(back, b) {
			t.Errorf("P3.3: Turn of Turn(%s, %s): %s, %d", short(b), short(e), short(back), code)
		}
		none, code := burst.Turn(e, e)
		if code != api.OK || len(none) != len(e) || burst.Weight(none) != 0 {
			t.Errorf("P3.3: Turn(%s) by itself: %s, %d", short(e), short(none), code)
		}
	}
}

func TestTurnEveryByte(t *testing.T) {
	for b := range 256 {
		for e := range 256 {
			got, code := burst.Turn([]byte{byte(b)}, []byte{byte(e)})
			if code != api.OK || !bytes.Equal(got, []byte{byte(b + e - 2*(b&e))}) {
				t.Fatalf("P3.3: Turn(%02x, %02x): %x, %d", b, e, got, code)
			}
		}
	}
}

func TestTurnSize(t *testing.T) {
	for n := range 12 {
		for m := range 12 {
			got, e := burst.Turn(bytesOf(n, 1), bytesOf(m, 2))
			if n == m {
				if e != api.OK || len(got) != n {
					t.Errorf("P3.3: Turn of %d bytes: %x, %d", n, got, e)
				}
				continue
			}
			if e != api.ErrSize || len(got) != 0 {
				t.Errorf("P3.3: Turn of %d bytes by %d: %x, %d", n, m, got, e)
			}
		}
	}
	// Room behind a list isn't part of its length.
	got, e := burst.Turn(make([]byte, 2, 3), make([]byte, 3))
	if e != api.ErrSize || len(got) != 0 {
		t.Errorf("P3.3: Turn of 2 bytes with room for one: %x, %d", got, e)
	}
	for _, c := range [][2][]byte{{nil, {1}}, {{1}, nil}, {{}, {1}}, {{1}, {}}} {
		if got, e := burst.Turn(c[0], c[1]); e != api.ErrSize || len(got) != 0 {
			t.Errorf("P3.3: Turn(%x, %x): %x, %d", c[0], c[1], got, e)
		}
	}
}

func TestNilIsEmpty(t *testing.T) {
	for _, b := range [][]byte{nil, {}} {
		for _, e := range [][]byte{nil, {}} {
			if got, code := burst.Turn(b, e); code != api.OK || len(got) != 0 {
				t.Errorf("R5: Turn of no bytes: %x, %d", got, code)
			}
		}
	}
}

// roomy: the bytes with room behind them that is filled too, and all of that room.
func roomy(b []byte) (list, all []byte) {
	all = append(slices.Clone(b), bytesOf(64, 99)...)
	return all[:len(b)], all
}

func TestArgumentsStay(t *testing.T) {
	for i, e := range patterns() {
		list, all := roomy(e)
		kept := slices.Clone(all)
		other, otherAll := roomy(bytesOf(len(e), uint32(i)))
		otherKept := slices.Clone(otherAll)

		holdPattern(t, list)
		burst.Turn(list, other)
		burst.Turn(other, list)
		burst.Turn(list, other[:len(other)/2])
		if !bytes.Equal(all, kept) || !bytes.Equal(otherAll, otherKept) {
			t.Errorf("R6: what was handed in or the room behind it was changed: %s", short(e))
		}
	}
}

func TestAnswersAreNew(t *testing.T) {
	for i, e := range patterns() {
		pattern, patternAll := roomy(e)
		list, listAll := roomy(bytesOf(len(e), uint32(i)))
		patternKept, listKept := slices.Clone(patternAll), slices.Clone(listAll)

		got, _ := burst.Turn(list, pattern)
		want := slices.Clone(got)
		again, _ := burst.Turn(list, pattern)
		fill(got)
		if !bytes.Equal(patternAll, patternKept) || !bytes.Equal(listAll, listKept) || !bytes.Equal(again, want) {
			t.Errorf("R6: Turn's answer isn't new memory: %s", short(e))
		}
		fill(patternAll)
		fill(listAll)
		if !bytes.Equal(again, want) {
			t.Errorf("R6: Turn's answer changes with its arguments: %s", short(e))
		}
	}
}

func TestTurnByOneList(t *testing.T) {
	// Both arguments in one memory, the one within the other's room.
	all := bytesOf(9, 3)
	kept := slices.Clone(all)
	got, e := burst.Turn(all[:4], all[2:6])
	if e != api.OK || !bytes.Equal(got, turned(kept[:4], kept[2:6])) || !bytes.Equal(all, kept) {
		t.Errorf("R6: Turn of lists that share their memory: %x, %d; left behind: %x", got, e, all)
	}
}

func TestMakeAndPartsAreNew(t *testing.T) {
	for _, word := range words()[1:] {
		got, _ := burst.Make(9, 11, word)
		want := slices.Clone(got)
		fill(got)
		if again, _ := burst.Make(9, 11, word); !bytes.Equal(again, want) {
			t.Errorf("R6: Make(9, 11, %x) answers what it answered before", word)
		}
		parts := burst.Parts(want)
		wantParts := slices.Clone(parts)
		again := burst.Parts(want)
		parts = parts[:cap(parts)]
		for i := range parts {
			parts[i] = -7
		}
		if !slices.Equal(again, wantParts) || !slices.Equal(burst.Parts(want), wantParts) {
			t.Errorf("R6: Parts(%x) shares its memory with another answer", want)
		}
	}
}

// fill overwrites a list, with its room.
func fill(b []byte) {
	b = b[:cap(b)]
	for i := range b {
		b[i] ^= 0xff
	}
}

func TestSameAgain(t *testing.T) {
	for _, e := range patterns() {
		holdPattern(t, e)
		// What other calls did between doesn't matter.
		burst.Make(3, 4, 0x1ff)
		burst.Turn(e, e)
		holdPattern(t, slices.Clone(e))
	}
}

func TestBurstsFailTheCheck(t *testing.T) {
	for n := range api.MaxUnit + 1 {
		sealed := crc.Seal(bytesOf(n, uint32(n)))
		for at := range 8 * len(sealed) {
			for _, word := range words() {
				e, code := burst.Make(len(sealed), at, word)
				if code != api.OK {
					continue
				}
				garbled, _ := burst.Turn(sealed, e)
				if crc.Valid(garbled) {
					t.Fatalf("P6: %x is valid with %x turned", sealed, e)
				}
				if back, _ := burst.Turn(garbled, e); !crc.Valid(back) {
					t.Fatalf("P3.3: %x turned twice by %x is no longer valid", sealed, e)
				}
			}
		}
	}
}
