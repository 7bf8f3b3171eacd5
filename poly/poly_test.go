package poly_test

import (
	"bytes"
	"math/big"
	"math/bits"
	"testing"

	"parapet/api"
	"parapet/poly"
)

const top = uint64(1) << 63

// edges: nothing, the constants, single terms at both ends of a word and of
// half a word, all terms, and a few moduli that are known by name.
var edges = []uint64{
	0, 1, 2, 3, 4, 5, 6, 7, 9, 0xb, 0xc, 0x1b, 0x80, 0x11b,
	1 << 31, 1<<32 - 1, 1 << 32, 0x104c11db7, 1<<33 - 1,
	1 << 62, 1<<63 - 1, top, top | 1, top | 0x1b, 0xaaaaaaaaaaaaaaaa, 0x5555555555555555, ^uint64(1), ^uint64(0),
}

// words: the edges and some more, of all degrees; the same at each run.
func words() []uint64 {
	list := append([]uint64(nil), edges...)
	s := uint64(0x9e3779b97f4a7c15)
	for i := range 64 {
		s ^= s << 13
		s ^= s >> 7
		s ^= s << 17
		list = append(list, s>>i)
	}
	return list
}

// lists: byte lists of many lengths, leading and trailing zeros among them.
func lists() [][]byte {
	out := [][]byte{nil, {}, {0}, {1}, {0x80}, {0xff}, {0, 0}, {1, 0}, {0, 1}, {0x80, 0, 0, 0, 0, 0, 0, 0, 0}}
	s := uint32(1)
	for n := range 40 {
		b := make([]byte, n)
		for i := range b {
			s = s*1664525 + 1013904223
			b[i] = byte(s >> 24)
		}
		out = append(out, b)
	}
	return out
}

func word(p uint64) *big.Int { return new(big.Int).SetUint64(p) }

// product and rest are the long ways, on numbers without a greatest size: what the words are held against.
func product(p, q *big.Int) *big.Int {
	sum := new(big.Int)
	for i := range q.BitLen() {
		if q.Bit(i) == 1 {
			sum.Xor(sum, new(big.Int).Lsh(p, uint(i)))
		}
	}
	return sum
}

func rest(p, m *big.Int) uint64 {
	r := new(big.Int).Set(p)
	for r.BitLen() >= m.BitLen() {
		r.Xor(r, new(big.Int).Lsh(m, uint(r.BitLen()-m.BitLen())))
	}
	return r.Uint64()
}

func mulMod(t *testing.T, p, q, m uint64) uint64 {
	t.Helper()
	r, e := poly.MulMod(p, q, m)
	if e != api.OK {
		t.Fatalf("MulMod(%x, %x, %x): error %d", p, q, m, e)
	}
	return r
}

func powMod(t *testing.T, n, m uint64) uint64 {
	t.Helper()
	r, e := poly.PowMod(n, m)
	if e != api.OK {
		t.Fatalf("PowMod(%x, %x): error %d", n, m, e)
	}
	return r
}

func of(t *testing.T, b []byte, m uint64) uint64 {
	t.Helper()
	r, e := poly.Of(b, m)
	if e != api.OK {
		t.Fatalf("Of(%x, %x): error %d", b, m, e)
	}
	return r
}

// P1.1.

func TestDegree(t *testing.T) {
	for _, c := range []struct {
		p    uint64
		want int
	}{{0, -1}, {1, 0}, {0x80, 7}, {0xff, 7}, {0x11b, 8}, {1 << 32, 32}, {top, 63}, {^uint64(0), 63}} {
		if got := poly.Degree(c.p); got != c.want {
			t.Errorf("Degree(%x): %d, want %d", c.p, got, c.want)
		}
	}
	for i := range 64 {
		for _, p := range []uint64{1 << i, 1<<i | 1, 1<<i | (1<<i - 1)} {
			if got := poly.Degree(p); got != i {
				t.Errorf("Degree(%x): %d, want %d", p, got, i)
			}
		}
	}
}

func TestWeight(t *testing.T) {
	for _, c := range []struct {
		p    uint64
		want int
	}{{0, 0}, {1, 1}, {0x80, 1}, {0x1b, 4}, {0x11b, 5}, {top, 1}, {top | 1, 2}, {^uint64(0), 64}} {
		if got := poly.Weight(c.p); got != c.want {
			t.Errorf("Weight(%x): %d, want %d", c.p, got, c.want)
		}
	}
	for _, p := range words() {
		want := 0
		for i := range 64 {
			want += int(p >> i & 1)
		}
		if got := poly.Weight(p); got != want {
			t.Errorf("Weight(%x): %d, want %d", p, got, want)
		}
	}
}

// P1.2.

func TestMulExamples(t *testing.T) {
	for _, c := range []struct {
		p, q uint32
		want uint64
	}{
		{3, 3, 5}, {7, 5, 0x1b}, {0, 0, 0}, {0, 7, 0}, {7, 0, 0}, {1, 7, 7}, {7, 1, 7},
		{1 << 31, 1 << 31, 1 << 62}, {1<<32 - 1, 1<<32 - 1, 0x5555555555555555}, {1<<32 - 1, 3, 1<<32 | 1},
	} {
		if got := poly.Mul(c.p, c.q); got != c.want {
			t.Errorf("Mul(%x, %x): %x, want %x", c.p, c.q, got, c.want)
		}
	}
}

func TestMulIsTheProduct(t *testing.T) {
	for _, p := range words() {
		for _, q := range words() {
			a, b := uint32(p), uint32(q)
			want := product(word(uint64(a)), word(uint64(b)))
			if got := poly.Mul(a, b); word(got).Cmp(want) != 0 {
				t.Fatalf("Mul(%x, %x): %x, want %x", a, b, got, want)
			}
		}
	}
}

// P1.3.

func TestDivModExamples(t *testing.T) {
	for _, c := range []struct{ p, q, quotient, rest uint64 }{
		{0x1b, 5, 7, 0}, {0xb, 3, 6, 1}, {5, 0xb, 0, 5}, {0, 1, 0, 0}, {0, top, 0, 0}, {1, 1, 1, 0},
		{^uint64(0), 1, ^uint64(0), 0}, {top, top, 1, 0}, {top, 1, top, 0}, {top - 1, top, 0, top - 1},
		{^uint64(0), top, 1, top - 1}, {top, 2, 1 << 62, 0},
	} {
		a, r, e := poly.DivMod(c.p, c.q)
		if a != c.quotient || r != c.rest || e != api.OK {
			t.Errorf("DivMod(%x, %x): %x %x %d, want %x %x", c.p, c.q, a, r, e, c.quotient, c.rest)
		}
	}
}

func TestDivModByNothing(t *testing.T) {
	for _, p := range words() {
		if a, r, e := poly.DivMod(p, 0); a != 0 || r != 0 || e != api.ErrZero {
			t.Errorf("DivMod(%x, 0): %x %x %d", p, a, r, e)
		}
	}
}

func TestDivModIsADivision(t *testing.T) {
	for _, p := range words() {
		for _, q := range words() {
			if q == 0 {
				continue
			}
			a, r, e := poly.DivMod(p, q)
			back := product(word(q), word(a))
			back.Xor(back, word(r))
			if e != api.OK || back.Cmp(word(p)) != 0 || bits.Len64(r) >= bits.Len64(q) {
				t.Fatalf("DivMod(%x, %x): %x %x %d", p, q, a, r, e)
			}
		}
	}
}

// P1.4.

func TestGcdExamples(t *testing.T) {
	for _, c := range []struct{ p, q, want uint64 }{
		{6, 9, 3}, {0, 5, 5}, {5, 0, 5}, {0xc, 0xc, 0xc}, {0, 0, 0}, {1, 0, 1}, {0, 1, 1}, {1, ^uint64(0), 1},
		{0, top, top}, {top, 0, top}, {top, top, top}, {top, 1 << 40, 1 << 40}, {top, top | 1, 1},
		{^uint64(0), 1<<32 - 1, 1<<32 - 1}, {top | 1, 3, 3}, {^uint64(0), 0, ^uint64(0)},
	} {
		if got := poly.Gcd(c.p, c.q); got != c.want {
			t.Errorf("Gcd(%x, %x): %x, want %x", c.p, c.q, got, c.want)
		}
	}
}

// Among small words every divisor can be tried.
func TestGcdIsTheGreatest(t *testing.T) {
	const most = 128
	var divides [most][most]bool
	for g := range uint64(most) {
		for a := range uint64(most) {
			if p := product(word(g), word(a)).Uint64(); p < most {
				divides[g][p] = true
			}
		}
	}
	for p := range uint64(most) {
		for q := range uint64(most) {
			want := uint64(0)
			for g := range uint64(most) {
				if divides[g][p] && divides[g][q] {
					want = g
				}
			}
			if p == 0 && q == 0 { // all divide both: the document says 0
				want = 0
			}
			if got := poly.Gcd(p, q); got != want {
				t.Fatalf("Gcd(%x, %x): %x, want %x", p, q, got, want)
			}
		}
	}
}

// The longest runs of divisions: neighbours in a row where each quotient is x.
func TestGcdOfTheLongestRun(t *testing.T) {
	p, q := uint64(0), uint64(1)
	for range 64 {
		if got := poly.Gcd(p, q); got != 1 {
			t.Errorf("Gcd(%x, %x): %x, want 1", p, q, got)
		}
		if got := poly.Gcd(q, p); got != 1 {
			t.Errorf("Gcd(%x, %x): %x, want 1", q, p, got)
		}
		p, q = q, q<<1^p
	}
	if poly.Degree(p) != 63 {
		t.Fatalf("the row ends with the degree %d", poly.Degree(p))
	}
}

func TestGcdOfGreatWords(t *testing.T) {
	for _, p := range words() {
		for _, q := range words() {
			g := poly.Gcd(p, q)
			if g != poly.Gcd(q, p) {
				t.Fatalf("Gcd(%x, %x): the order matters", p, q)
			}
			if p == 0 && q == 0 {
				continue
			}
			if g == 0 || rest(word(p), word(g)) != 0 || rest(word(q), word(g)) != 0 {
				t.Fatalf("Gcd(%x, %x): %x does not divide both", p, q, g)
			}
			// What is left behind the division by the greatest has nothing in common.
			a, _, _ := poly.DivMod(p, g)
			b, _, _ := poly.DivMod(q, g)
			if poly.Gcd(a, b) != 1 {
				t.Fatalf("Gcd(%x, %x): %x is not the greatest", p, q, g)
			}
		}
	}
	for _, p := range words() {
		for _, q := range words() {
			a, b := uint32(p), uint32(q)
			g := poly.Gcd(uint64(a), uint64(b))
			if got := poly.Gcd(poly.Mul(a, 0x80000005), poly.Mul(b, 0x80000005)); got != poly.Mul(uint32(g), 0x80000005) {
				t.Fatalf("Gcd of %x and %x, each times 80000005: %x", a, b, got)
			}
		}
	}
}

// P1.5.

func TestMulModExamples(t *testing.T) {
	for _, c := range []struct{ p, q, m, want uint64 }{
		{2, 0x80, 0x11b, 0x1b}, {0x57, 0x83, 0x11b, 0xc1}, {0, 5, 7, 0}, {5, 0, 7, 0}, {0, 0, 1, 0},
		{1, 1, 1, 0}, {^uint64(0), ^uint64(0), 1, 0}, {1, 1, 2, 1}, {1, ^uint64(0), top, top - 1},
		{top, 2, top | 0x1b, 0x36}, {top, top, top, 0}, {top, top, top | 1, 1},
	} {
		if got := mulMod(t, c.p, c.q, c.m); got != c.want {
			t.Errorf("MulMod(%x, %x, %x): %x, want %x", c.p, c.q, c.m, got, c.want)
		}
	}
}

func TestMulModIsTheProductsRest(t *testing.T) {
	for _, p := range words() {
		for _, q := range edges {
			whole := product(word(p), word(q))
			for _, m := range edges[1:] {
				want := rest(whole, word(m))
				if got := mulMod(t, p, q, m); got != want {
					t.Fatalf("MulMod(%x, %x, %x): %x, want %x", p, q, m, got, want)
				}
				if got := mulMod(t, q, p, m); got != want {
					t.Fatalf("MulMod(%x, %x, %x): %x, want %x", q, p, m, got, want)
				}
			}
		}
	}
}

func TestPowModExamples(t *testing.T) {
	for _, c := range []struct{ n, m, want uint64 }{
		{0, 1, 0}, {0, 3, 1}, {8, 0x11b, 0x1b}, {0, 2, 1}, {1, 2, 0}, {1, 1, 0}, {1, 3, 1}, {^uint64(0), 3, 1},
		{^uint64(0), 1, 0}, {^uint64(0), 2, 0}, {62, top, 1 << 62}, {63, top, 0}, {63, top | 0x1b, 0x1b}, {0, top, 1},
		// x comes back to 1 behind 51 steps by 11b, behind 2^32 - 1 by the third; both divide 2^64 - 1.
		{51, 0x11b, 1}, {^uint64(0), 0x11b, 1}, {^uint64(0) - 1, 0x11b, 0x8d}, {top, 0x11b, 0xfa},
		{1<<32 - 1, 0x104c11db7, 1}, {^uint64(0), 0x104c11db7, 1}, {1 << 32, 0x104c11db7, 2},
	} {
		if got := powMod(t, c.n, c.m); got != c.want {
			t.Errorf("PowMod(%x, %x): %x, want %x", c.n, c.m, got, c.want)
		}
	}
}

func TestPowModIsThePowersRest(t *testing.T) {
	for _, m := range words() {
		if m == 0 {
			continue
		}
		for n := range uint(300) {
			want := rest(new(big.Int).Lsh(big.NewInt(1), n), word(m))
			if got := powMod(t, uint64(n), m); got != want {
				t.Fatalf("PowMod(%x, %x): %x, want %x", n, m, got, want)
			}
		}
	}
}

// Great exponents: they add up where powers are multiplied.
func TestPowModOfGreatExponents(t *testing.T) {
	for _, m := range edges[1:] {
		for _, n := range words() {
			for _, half := range []uint64{n / 2, n / 3, n &^ (n >> 1)} {
				a, b := powMod(t, half, m), powMod(t, n-half, m)
				if got := powMod(t, n, m); got != rest(product(word(a), word(b)), word(m)) {
					t.Fatalf("PowMod(%x, %x): %x is not %x times %x", n, m, got, a, b)
				}
			}
		}
	}
}

func TestOfExamples(t *testing.T) {
	for _, c := range []struct {
		b       []byte
		m, want uint64
	}{
		{[]byte{1, 0}, 0x11b, 0x1b}, {[]byte{}, 7, 0}, {nil, 7, 0}, {nil, 1, 0}, {nil, top, 0}, {[]byte{0, 0, 0}, 7, 0},
		{[]byte{0x80}, 0x11b, 0x80}, {[]byte{1}, 0x11b, 1}, {[]byte{0x01, 0x1b}, 0x11b, 0}, {[]byte{0xff}, 1, 0},
		{[]byte{0, 0, 1, 0}, 0x11b, 0x1b}, {[]byte{0xff}, 2, 1}, {[]byte{0xfe}, 2, 0},
		{[]byte{0x80, 0, 0, 0, 0, 0, 0, 0}, top | 0x1b, 0x1b}, {[]byte{1, 0, 0, 0, 0, 0, 0, 0, 0}, top | 0x1b, 0x36},
		{[]byte{0x7f, 0xff, 0xff, 0xff, 0xff, 0xff, 0xff, 0xff}, top, top - 1},
	} {
		if got := of(t, c.b, c.m); got != c.want {
			t.Errorf("Of(%x, %x): %x, want %x", c.b, c.m, got, c.want)
		}
	}
}

func TestOfIsTheBytesRest(t *testing.T) {
	for _, m := range words() {
		if m == 0 {
			continue
		}
		for _, b := range lists() {
			want := rest(new(big.Int).SetBytes(b), word(m))
			if got := of(t, b, m); got != want {
				t.Fatalf("Of(%x, %x): %x, want %x", b, m, got, want)
			}
		}
	}
}

func TestModulusOfNothing(t *testing.T) {
	for _, p := range words() {
		for _, q := range edges {
			if r, e := poly.MulMod(p, q, 0); r != 0 || e != api.ErrZero {
				t.Errorf("MulMod(%x, %x, 0): %x %d", p, q, r, e)
			}
		}
		if r, e := poly.PowMod(p, 0); r != 0 || e != api.ErrZero {
			t.Errorf("PowMod(%x, 0): %x %d", p, r, e)
		}
	}
	for _, b := range lists() {
		if r, e := poly.Of(b, 0); r != 0 || e != api.ErrZero {
			t.Errorf("Of(%x, 0): %x %d", b, r, e)
		}
	}
}

// R6: the bytes that are handed in, and the room behind them, stay as they are.
func TestOfLeavesItsBytes(t *testing.T) {
	room := []byte{0x12, 0x34, 0x56, 0x78, 0x9a, 0xbc}
	before := bytes.Clone(room)
	first := of(t, room[1:4], 0x11b)
	if !bytes.Equal(room, before) {
		t.Errorf("Of changed its bytes: %x, were %x", room, before)
	}
	room[4] = 0xff // the room behind the bytes has no say (R8)
	if again := of(t, room[1:4], 0x11b); again != first {
		t.Errorf("Of answered %x, then %x", first, again)
	}
}

// P1.6.

func TestOfOneBehindTheOther(t *testing.T) {
	for _, m := range edges[1:] {
		for _, a := range lists() {
			for _, b := range lists() {
				both := append(bytes.Clone(a), b...)
				want := mulMod(t, of(t, a, m), powMod(t, uint64(8*len(b)), m), m) ^ of(t, b, m)
				if got := of(t, both, m); got != want {
					t.Fatalf("Of(%x and %x, %x): %x, want %x", a, b, m, got, want)
				}
			}
		}
	}
}

func TestSumsGoWithProductsAndRests(t *testing.T) {
	for _, m := range edges[1:] {
		for _, p := range words() {
			for _, q := range edges {
				_, a, _ := poly.DivMod(p, m)
				_, b, _ := poly.DivMod(q, m)
				if _, r, e := poly.DivMod(p^q, m); r != a^b || e != api.OK {
					t.Fatalf("the rest of %x + %x by %x: %x, want %x", p, q, m, r, a^b)
				}
				if got := mulMod(t, a, b, m); got != mulMod(t, p, q, m) {
					t.Fatalf("the rests' product of %x and %x by %x: %x", p, q, m, got)
				}
				s := uint64(0x8000000000000123)
				if got := mulMod(t, p^q, s, m); got != mulMod(t, p, s, m)^mulMod(t, q, s, m) {
					t.Fatalf("(%x + %x) times %x by %x: %x", p, q, s, m, got)
				}
			}
		}
	}
}

func TestMulGoesWithMulMod(t *testing.T) {
	for _, p := range words() {
		for _, q := range words() {
			a, b := uint32(p), uint32(q)
			_, want, _ := poly.DivMod(poly.Mul(a, b), 0x104c11db7)
			if got := mulMod(t, uint64(a), uint64(b), 0x104c11db7); got != want {
				t.Fatalf("MulMod(%x, %x, 104c11db7): %x, want %x", a, b, got, want)
			}
			if got := poly.Mul(a^b, 0xdeadbeef); got != poly.Mul(a, 0xdeadbeef)^poly.Mul(b, 0xdeadbeef) {
				t.Fatalf("(%x + %x) times deadbeef: %x", a, b, got)
			}
		}
	}
}

func TestEvenWeightIsDividedByXPlusOne(t *testing.T) {
	for _, p := range words() {
		_, r, e := poly.DivMod(p, 3)
		if e != api.OK || (r == 0) != (poly.Weight(p)%2 == 0) {
			t.Errorf("DivMod(%x, 3): rest %x, error %d; the weight is %d", p, r, e, poly.Weight(p))
		}
	}
	for p := range uint64(1 << 12) {
		if _, r, _ := poly.DivMod(p, 3); (r == 0) != (poly.Weight(p)%2 == 0) {
			t.Errorf("DivMod(%x, 3): rest %x; the weight is %d", p, r, poly.Weight(p))
		}
	}
}
