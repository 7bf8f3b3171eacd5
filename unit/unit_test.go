package unit_test

import (
	"bytes"
	"encoding/hex"
	"fmt"
	"hash/crc32"
	"math"
	"math/bits"
	"slices"
	"testing"

	"parapet/api"
	"parapet/burst"
	"parapet/crc"
	"parapet/unit"
)

const most = math.MaxUint32

// row is a line of the document's table of units.
type row struct {
	kind     api.Kind
	host     bool
	session  string // "0", "1" (1 at least) or "any"
	number   string // "0" or "1" (1 at least)
	low, top int    // bytes of data
	flags    int    // the greatest
}

// table is the document's, line by line.
var table = []row{
	{1, true, "0", "0", 4, 4, 0},
	{2, true, "1", "0", 4, 4, 0},
	{3, true, "1", "0", 0, 0, 0},
	{4, true, "1", "1", 1, 8, 15},
	{5, true, "1", "1", 0, 0, 0},
	{17, false, "1", "0", 4, 4, 0},
	{18, false, "1", "0", 0, 0, 0},
	{19, false, "1", "0", 0, 0, 0},
	{20, false, "1", "1", 1, 8, 15},
	{21, false, "1", "1", 0, 0, 0},
	{22, false, "any", "0", 0, 0, 0},
}

// lineOf: a kind's line.
func lineOf(k api.Kind) (row, bool) {
	i := slices.IndexFunc(table, func(r row) bool { return r.kind == k })
	if i < 0 {
		return row{}, false
	}
	return table[i], true
}

// allows: does a column of the table let this number stand?
func allows(column string, x uint32) bool {
	return column == "any" || column == "0" && x == 0 || column == "1" && x >= 1
}

// wanted is what Lawful must answer, by the table.
func wanted(u api.Unit) api.Errno {
	r, ok := lineOf(u.Kind)
	if !ok {
		return api.ErrKind
	}
	if u.Code < 1 {
		return api.ErrCode
	}
	if len(u.Data) < r.low || r.top < len(u.Data) {
		return api.ErrLength
	}
	if !allows(r.session, u.Session) {
		return api.ErrSession
	}
	if !allows(r.number, u.Number) {
		return api.ErrNumber
	}
	if u.Flags < 0 || r.flags < u.Flags {
		return api.ErrFlags
	}
	return api.OK
}

// libraryCheck is the library's check by the same generator, which begins with
// all bits 1, ends with all of them turned, and has the bits in the other order.
func libraryCheck(b []byte) uint32 {
	turned := make([]byte, len(b))
	for i, x := range b {
		turned[i] = bits.Reverse8(x)
	}
	// Begun at its own turned start, it begins with all bits 0.
	return bits.Reverse32(^crc32.Update(most, crc32.MakeTable(crc32.Castagnoli), turned))
}

// sealed puts the check behind what a text of base sixteen says.
func sealed(text string) []byte {
	b, err := hex.DecodeString(text)
	if err != nil {
		panic(err)
	}
	check, _ := hex.DecodeString(fmt.Sprintf("%08x", libraryCheck(b)))
	return slices.Concat(b, check)
}

// written is the frame whose fields stand there, lawful or not; said: how many bytes of data it says it has.
func written(u api.Unit, said int) []byte {
	return sealed(fmt.Sprintf("%02x%08x%08x%08x%02x%02x%x", int(u.Kind), u.Code, u.Session, u.Number, u.Flags, said, u.Data))
}

// bytesOf: n bytes, the same at each run; another seed gives others.
func bytesOf(n int, seed uint32) []byte {
	b := make([]byte, n)
	for i := range b {
		seed = seed*1664525 + 1013904223
		b[i] = byte(seed >> 24)
	}
	return b
}

// same: two units that are the same, a list without elements being like nil.
func same(a, b api.Unit) bool {
	return a.Kind == b.Kind && a.Code == b.Code && a.Session == b.Session && a.Number == b.Number && a.Flags == b.Flags && bytes.Equal(a.Data, b.Data)
}

// zero: a unit of which nothing is set, not even an empty list's room.
func zero(u api.Unit) bool { return same(u, api.Unit{}) && cap(u.Data) == 0 }

// numbers of 32 bits: the edges, and one whose bytes are all unlike.
var numbers = []uint32{0, 1, 2, 0x80000000, 0x01020304, most - 1, most}

var flags = []int{math.MinInt, -256, -16, -1, 0, 1, 2, 4, 7, 8, 14, 15, 16, 17, 128, 255, 256, 257, 1<<32 | 1, math.MaxInt}

var lengths = []int{0, 1, 2, 3, 4, 5, 7, 8, 9, 10, 255, 256, 257, 260, 264, 1000}

// kinds: all that fit into a byte, and such as would be one of the eleven if some of their bits got lost.
func kinds() []api.Kind {
	out := []api.Kind{math.MinInt, math.MinInt + 1, -256, -255, -252, -17, -5, -1, 256, 257, 260, 273, 278, 1<<32 + 4, 1<<32 + 20, math.MaxInt}
	for k := range api.Kind(256) {
		out = append(out, k)
	}
	return out
}

// lawful: units of each of the eleven kinds with the edges of all that they may have.
func lawful() []api.Unit {
	var out []api.Unit
	for _, r := range table {
		for n := r.low; n <= r.top; n++ {
			for i, session := range numbers {
				for j, number := range numbers {
					u := api.Unit{Kind: r.kind, Code: numbers[1+(i+j)%(len(numbers)-1)], Session: session, Number: number, Data: bytesOf(n, uint32(i+9*j))}
					if !allows(r.session, session) || !allows(r.number, number) {
						continue
					}
					u.Flags = (3*i + 5*j + n) % (r.flags + 1)
					out = append(out, u)
				}
			}
		}
		for f := range r.flags + 1 {
			u := least(r)
			u.Flags = f
			out = append(out, u)
		}
	}
	return out
}

// least: the least unit of a line.
func least(r row) api.Unit {
	u := api.Unit{Kind: r.kind, Code: 1, Data: bytesOf(r.low, 8)}
	if r.session == "1" {
		u.Session = 1
	}
	if r.number == "1" {
		u.Number = 1
	}
	return u
}

func TestSides(t *testing.T) {
	for _, k := range kinds() {
		r, ok := lineOf(k)
		if got := unit.FromHost(k); got != (ok && r.host) {
			t.Errorf("P4.1: FromHost(%d): %v", k, got)
		}
		if got := unit.FromDevice(k); got != (ok && !r.host) {
			t.Errorf("P4.1: FromDevice(%d): %v", k, got)
		}
	}
}

func TestSidesByName(t *testing.T) {
	host := []api.Kind{api.HostParam, api.HostEcho, api.HostStart, api.HostData, api.HostLast}
	device := []api.Kind{api.DevOffer, api.DevAgreed, api.DevStarted, api.DevData, api.DevLast, api.DevNone}
	for _, k := range host {
		if !unit.FromHost(k) || unit.FromDevice(k) {
			t.Errorf("P4.1: %d is the host's", k)
		}
	}
	for _, k := range device {
		if unit.FromHost(k) || !unit.FromDevice(k) {
			t.Errorf("P4.1: %d is the device's", k)
		}
	}
	for _, k := range []api.Kind{-1, 0, api.HostLast + 1, 15, 16, api.DevOffer - 1, api.DevNone + 1} {
		if unit.FromHost(k) || unit.FromDevice(k) {
			t.Errorf("P4.1: %d is nobody's", k)
		}
	}
}

func TestExamples(t *testing.T) {
	for _, c := range []struct {
		u    api.Unit
		want string
		e    api.Errno
	}{
		{api.Unit{Kind: api.HostData, Code: 7, Session: 3, Number: 9, Flags: 8, Data: []byte{0xab, 0xcd}}, "040000000700000003000000090802abcd70708a0d", api.OK},
		{api.Unit{Kind: api.DevNone, Code: 7}, "160000000700000000000000000000ce75d6c2", api.OK},
		{api.Unit{Kind: api.HostData, Code: 7, Session: 3, Number: 9}, "", api.ErrLength},
		{api.Unit{Kind: api.HostStart, Code: 7}, "", api.ErrSession},
		{api.Unit{Kind: api.DevNone, Code: 7, Number: 1}, "", api.ErrNumber},
		{api.Unit{Kind: api.HostEcho, Code: 1, Session: 1, Flags: 1, Data: []byte{1, 2, 3, 4}}, "", api.ErrFlags},
		{api.Unit{}, "", api.ErrKind},
	} {
		holdUnit(t, c.u, c.e)
		if got, e := unit.Encode(c.u); e != c.e || hex.EncodeToString(got) != c.want {
			t.Errorf("P4.3: Encode(%+v): %x, %d, not %s, %d", c.u, got, e, c.want, c.e)
		}
	}
	for n, want := range map[int]api.Errno{18: api.ErrShort, 28: api.ErrLong, 19: api.ErrKind} {
		if u, e := unit.Decode(make([]byte, n)); e != want || !zero(u) {
			t.Errorf("P4.4: Decode of %d bytes 0: %+v, %d, not %d", n, u, e, want)
		}
	}
}

// holdUnit holds Lawful, Encode and Size against what is wanted of a unit.
func holdUnit(t *testing.T, u api.Unit, want api.Errno) {
	t.Helper()
	if e := unit.Lawful(u); e != want {
		t.Errorf("P4.2: Lawful(%+v): %d, not %d", u, e, want)
	}
	n, e := unit.Size(u)
	frame, e2 := unit.Encode(u)
	if e != want || e2 != want {
		t.Errorf("P4.3: Size, Encode(%+v): %d, %d, not %d", u, e, e2, want)
	}
	if want != api.OK {
		if n != 0 || len(frame) != 0 {
			t.Errorf("R3: Size, Encode(%+v): %d, %x beside %d", u, n, frame, want)
		}
		return
	}
	if wanted := written(u, len(u.Data)); n != len(wanted) || !bytes.Equal(frame, wanted) {
		t.Errorf("P4.3: Size, Encode(%+v): %d, %x, not %d, %x", u, n, frame, len(wanted), wanted)
	}
}

func TestEveryLine(t *testing.T) {
	for _, r := range table {
		for _, code := range []uint32{0, 1, most} {
			for _, n := range lengths {
				data := bytesOf(n, uint32(n))
				for _, session := range numbers {
					for _, number := range numbers {
						for _, f := range flags {
							u := api.Unit{Kind: r.kind, Code: code, Session: session, Number: number, Flags: f, Data: data}
							if got, want := unit.Lawful(u), wanted(u); got != want {
								t.Fatalf("P4.2: Lawful(%+v): %d, not %d", u, got, want)
							}
						}
					}
				}
			}
		}
	}
}

func TestNoKind(t *testing.T) {
	for _, k := range kinds() {
		if _, ok := lineOf(k); ok {
			continue
		}
		// Looked for first: whatever else is wrong or right.
		holdUnit(t, api.Unit{Kind: k}, api.ErrKind)
		for _, r := range table {
			u := least(r)
			u.Kind = k
			holdUnit(t, u, api.ErrKind)
		}
		holdUnit(t, api.Unit{Kind: k, Session: most, Number: most, Flags: -1, Data: bytesOf(9, 9)}, api.ErrKind)
	}
}

func TestOneThingWrong(t *testing.T) {
	for _, r := range table {
		for _, c := range wrongs(r) {
			u := least(r)
			c.spoil(&u)
			holdUnit(t, u, c.e)
		}
	}
}

// wrong is one way to make a unit unlawful, and what is said of it.
type wrong struct {
	e     api.Errno
	spoil func(*api.Unit)
}

// wrongs: the ways of a kind's least unit, in the order of the errors.
func wrongs(r row) []wrong {
	out := []wrong{
		{api.ErrCode, func(u *api.Unit) { u.Code = 0 }},
		{api.ErrLength, func(u *api.Unit) { u.Data = bytesOf(r.top+1, 1) }},
	}
	if r.low > 0 {
		out = append(out, wrong{api.ErrLength, func(u *api.Unit) { u.Data = bytesOf(r.low-1, 1) }})
	}
	switch r.session {
	case "0":
		out = append(out, wrong{api.ErrSession, func(u *api.Unit) { u.Session = 1 }}, wrong{api.ErrSession, func(u *api.Unit) { u.Session = most }})
	case "1":
		out = append(out, wrong{api.ErrSession, func(u *api.Unit) { u.Session = 0 }})
	}
	switch r.number {
	case "0":
		out = append(out, wrong{api.ErrNumber, func(u *api.Unit) { u.Number = 1 }}, wrong{api.ErrNumber, func(u *api.Unit) { u.Number = most }})
	case "1":
		out = append(out, wrong{api.ErrNumber, func(u *api.Unit) { u.Number = 0 }})
	}
	return append(out,
		wrong{api.ErrFlags, func(u *api.Unit) { u.Flags = r.flags + 1 }},
		wrong{api.ErrFlags, func(u *api.Unit) { u.Flags = 255 }},
		wrong{api.ErrFlags, func(u *api.Unit) { u.Flags = 128 }},
	)
}

func TestFlagsBeyondAByte(t *testing.T) {
	for _, r := range table {
		for _, f := range []int{-1, -255, -256, math.MinInt, math.MinInt + 1, 256, 257, 271, 1 << 32, math.MaxInt} {
			u := least(r)
			u.Flags = f
			holdUnit(t, u, api.ErrFlags)
		}
	}
}

func TestTheFirstError(t *testing.T) {
	for _, r := range table {
		ways := wrongs(r)
		for i, first := range ways {
			for _, second := range ways[i+1:] {
				if first.e == second.e {
					continue
				}
				u := least(r)
				first.spoil(&u)
				second.spoil(&u)
				holdUnit(t, u, first.e)
				holdWritten(t, u, len(u.Data), first.e)
			}
		}
	}
}

func TestLawfulUnits(t *testing.T) {
	seen := map[api.Kind]int{}
	for _, u := range lawful() {
		seen[u.Kind]++
		holdUnit(t, u, api.OK)
	}
	if len(seen) != 11 {
		t.Errorf("P4.2: %d kinds were tried, not 11", len(seen))
	}
}

func TestSizes(t *testing.T) {
	for _, c := range []struct {
		u    api.Unit
		want int
	}{
		{api.Unit{Kind: api.DevNone, Code: 1, Session: most}, 19},
		{api.Unit{Kind: api.DevNone, Code: 1}, api.MinUnit},
		{api.Unit{Kind: api.HostStart, Code: most, Session: most}, 19},
		{api.Unit{Kind: api.HostParam, Code: 1, Data: make([]byte, 4)}, 23},
		{api.Unit{Kind: api.HostData, Code: 1, Session: 1, Number: 1, Data: make([]byte, 1)}, 20},
		{api.Unit{Kind: api.DevData, Code: most, Session: most, Number: most, Flags: 15, Data: make([]byte, 8)}, 27},
		{api.Unit{Kind: api.DevData, Code: 1, Session: 1, Number: 1, Data: make([]byte, api.MaxData)}, api.MaxUnit},
	} {
		n, e := unit.Size(c.u)
		frame, e2 := unit.Encode(c.u)
		if n != c.want || len(frame) != c.want || e != api.OK || e2 != api.OK {
			t.Errorf("P4.3: Size, Encode(%+v): %d, %d, %d bytes, %d, not %d", c.u, n, e, len(frame), e2, c.want)
		}
	}
}

func TestThereAndBack(t *testing.T) {
	for _, u := range lawful() {
		frame, e := unit.Encode(u)
		if e != api.OK {
			t.Fatalf("P4.3: Encode(%+v): %d", u, e)
		}
		back, e := unit.Decode(frame)
		if e != api.OK || !same(back, u) {
			t.Errorf("P4.5: Decode of Encode(%+v): %+v, %d", u, back, e)
		}
	}
}

func TestDecodeWhatIsWritten(t *testing.T) {
	for _, u := range lawful() {
		frame := written(u, len(u.Data))
		got, e := unit.Decode(frame)
		if e != api.OK || !same(got, u) {
			t.Errorf("P4.4: Decode(%x): %+v, %d, not %+v", frame, got, e, u)
		}
		again, e := unit.Encode(got)
		if e != api.OK || !bytes.Equal(again, frame) {
			t.Errorf("P4.5: Encode of Decode(%x): %x, %d", frame, again, e)
		}
	}
}

// holdWritten holds Decode of a unit's bytes, which nothing is asked of but their number if they are too many.
func holdWritten(t *testing.T, u api.Unit, said int, want api.Errno) {
	t.Helper()
	if len(u.Data) > api.MaxData {
		want = api.ErrLong
	}
	holdFrame(t, written(u, said), want)
}

// holdFrame holds Decode against the error that is wanted of it.
func holdFrame(t *testing.T, frame []byte, want api.Errno) {
	t.Helper()
	if u, e := unit.Decode(frame); e != want || !zero(u) {
		t.Errorf("P4.4: Decode(%x): %+v, %d, not %d and nothing else", frame, u, e, want)
	}
}

func TestDecodeSizes(t *testing.T) {
	holdFrame(t, nil, api.ErrShort)
	for n := range 300 {
		want := api.ErrKind
		if n < 19 {
			want = api.ErrShort
		} else if n > 27 {
			want = api.ErrLong
		}
		// Bytes 0, of which the check is right, and bytes of which it isn't: how many is asked first.
		holdFrame(t, make([]byte, n), want)
		if want == api.ErrKind {
			want = api.ErrCheck
		}
		holdFrame(t, bytesOf(n, 5), want)
	}
	holdFrame(t, make([]byte, 1<<20), api.ErrLong)
	// One byte fewer than the least frame and one more than the greatest, with right checks.
	holdFrame(t, sealed("1600000007000000000000000000"), api.ErrShort)
	holdFrame(t, written(api.Unit{Kind: api.HostData, Code: 1, Session: 1, Number: 1, Data: bytesOf(9, 1)}, 9), api.ErrLong)
	holdFrame(t, written(api.Unit{Kind: api.HostData, Code: 1, Session: 1, Number: 1, Data: bytesOf(9, 1)}, 8), api.ErrLong)
}

func TestDecodeRoomIsNoLength(t *testing.T) {
	frame := written(api.Unit{Kind: api.DevNone, Code: 7}, 0)
	holdFrame(t, frame[:18], api.ErrShort)
	long := append(slices.Clone(frame), bytesOf(64, 3)...)
	if u, e := unit.Decode(long[:19]); e != api.OK || u.Kind != api.DevNone || u.Code != 7 {
		t.Errorf("P4.4: Decode of a frame with room behind it: %+v, %d", u, e)
	}
}

func TestDecodeOneThingWrong(t *testing.T) {
	for _, r := range table {
		for _, c := range wrongs(r) {
			u := least(r)
			c.spoil(&u)
			holdWritten(t, u, len(u.Data), c.e)
			if len(u.Data) > api.MaxData {
				continue
			}
			// A wrong check is said ahead of all that the fields are.
			frame := written(u, len(u.Data))
			frame[len(frame)-1] ^= 1
			holdFrame(t, frame, api.ErrCheck)
		}
	}
}

func TestDecodeEveryKind(t *testing.T) {
	for k := range api.Kind(256) {
		for _, r := range table {
			u := least(r)
			u.Kind = k
			want := wanted(u)
			got, e := unit.Decode(written(u, len(u.Data)))
			if e != want || want == api.OK && !same(got, u) || want != api.OK && !zero(got) {
				t.Errorf("P4.4: Decode of %+v: %+v, %d, not %d", u, got, e, want)
			}
		}
	}
}

func TestDecodeEveryByteOfFlags(t *testing.T) {
	for _, r := range table {
		for f := range 256 {
			u := least(r)
			u.Flags = f
			got, e := unit.Decode(written(u, len(u.Data)))
			if f <= r.flags && (e != api.OK || !same(got, u)) || f > r.flags && (e != api.ErrFlags || !zero(got)) {
				t.Errorf("P4.4: Decode of kind %d with the flags %d: %+v, %d", r.kind, f, got, e)
			}
		}
	}
}

func TestDecodeWhatIsSaid(t *testing.T) {
	for _, r := range table {
		for n := range api.MaxData + 1 {
			for said := range 256 {
				u := least(r)
				u.Data = bytesOf(n, uint32(said))
				frame := written(u, said)
				if said == n && r.low <= n && n <= r.top {
					if got, e := unit.Decode(frame); e != api.OK || !same(got, u) {
						t.Errorf("P4.4: Decode(%x): %+v, %d", frame, got, e)
					}
					continue
				}
				holdFrame(t, frame, api.ErrLength)
			}
		}
	}
}

func TestWhatIsSaidAmongOthers(t *testing.T) {
	for _, r := range table {
		for _, c := range wrongs(r) {
			u := least(r)
			c.spoil(&u)
			// Behind the kind and the code, ahead of all else.
			want := api.ErrLength
			if c.e == api.ErrCode {
				want = api.ErrCode
			}
			for _, said := range []int{len(u.Data) + 1, 255} {
				holdWritten(t, u, said, want)
				u := u
				u.Kind = 6
				holdWritten(t, u, said, api.ErrKind)
			}
		}
	}
}

func TestRandomBytes(t *testing.T) {
	// Whatever is taken is written back as it stood; most has a wrong check, so half of these get a right one.
	taken := 0
	for i := range uint32(200000) {
		b := bytesOf(int(i%32), i)
		if i%2 == 0 && len(b) >= 15 {
			b[0] &= 0x17
			b[13] &= 0x1f
			b[14] = byte(len(b)-15) - byte(i>>6&1)
			b = crc.Seal(b)
		}
		u, e := unit.Decode(b)
		if e != api.OK {
			if !zero(u) {
				t.Fatalf("R3: Decode(%x): %+v beside %d", b, u, e)
			}
			continue
		}
		taken++
		if unit.Lawful(u) != api.OK {
			t.Fatalf("P4.4: Decode(%x): %+v, which isn't lawful", b, u)
		}
		if again, e := unit.Encode(u); e != api.OK || !bytes.Equal(again, b) {
			t.Fatalf("P4.5: Encode of Decode(%x): %x, %d", b, again, e)
		}
	}
	if taken < 100 {
		t.Errorf("only %d of these bytes were taken: too few to tell anything", taken)
	}
}

// samples: a frame of each kind with the least and with the most bytes.
func samples() [][]byte {
	var out [][]byte
	for _, r := range table {
		u := least(r)
		out = append(out, written(u, len(u.Data)))
		if r.top > r.low {
			u.Code, u.Session, u.Number, u.Flags, u.Data = 0x01020304, most, 0x80000001, 15, bytesOf(r.top, 7)
			out = append(out, written(u, len(u.Data)))
		}
	}
	return out
}

// holdTurned: the frame with these bits turned isn't taken.
func holdTurned(t *testing.T, frame, pattern []byte) {
	t.Helper()
	garbled, e := burst.Turn(frame, pattern)
	if e != api.OK {
		t.Fatalf("Turn(%x, %x): %d", frame, pattern, e)
	}
	if u, e := unit.Decode(garbled); e != api.ErrCheck || !zero(u) {
		t.Fatalf("P4.6: %x with %x turned: %+v, %d", frame, pattern, u, e)
	}
}

// holdBursts tries the words as bursts at every place where they fit.
func holdBursts(t *testing.T, frame []byte, words []uint32) {
	t.Helper()
	for _, word := range words {
		for at := 0; at+bits.Len32(word) <= 8*len(frame); at++ {
			pattern, e := burst.Make(len(frame), at, word)
			if e != api.OK {
				t.Fatalf("Make(%d, %d, %x): %d", len(frame), at, word, e)
			}
			holdTurned(t, frame, pattern)
		}
	}
}

func TestBurstsAreNotTaken(t *testing.T) {
	words := []uint32{0x1edc6f41, 0x8f6e37a1, 0x80000001, 0xaaaaaaab, 0xd5555555, 0xdeadbeef, 0xffff0001, 0x80ffff01}
	for i := range api.MaxBurst {
		words = append(words, most>>i, 1<<i|1)
	}
	for i, frame := range samples() {
		for j := range 16 {
			b := bytesOf(4, uint32(100*i+j))
			words = append(words, 1|uint32(b[0])<<24|uint32(b[1])<<16|uint32(b[2])<<8|uint32(b[3]))
		}
		holdBursts(t, frame, words)
		words = words[:len(words)-16]
	}
}

func TestEveryShortBurst(t *testing.T) {
	var words []uint32
	for word := uint32(1); word < 1<<11; word += 2 {
		words = append(words, word)
	}
	frames := samples()
	holdBursts(t, frames[0], words)
	holdBursts(t, frames[len(frames)-1], words)
}

func TestOddBitsAreNotTaken(t *testing.T) {
	for i, frame := range samples() {
		for place := range 8 * len(frame) {
			pattern := make([]byte, len(frame))
			pattern[place/8] = 0x80 >> (place % 8)
			holdTurned(t, frame, pattern)
		}
		for j := range 2000 {
			pattern := bytesOf(len(frame), uint32(5000*i+j))
			if burst.Weight(pattern)%2 == 0 {
				pattern[j%len(pattern)] ^= 0x10
			}
			holdTurned(t, frame, pattern)
		}
		all := bytes.Repeat([]byte{0xff}, len(frame))
		all[0] = 0x7f
		holdTurned(t, frame, all)
	}
}

func TestEveryThreeBits(t *testing.T) {
	frame := samples()[0]
	n := 8 * len(frame)
	for a := range n {
		for b := range a {
			for c := range b {
				pattern := make([]byte, len(frame))
				for _, place := range []int{a, b, c} {
					pattern[place/8] |= 0x80 >> (place % 8)
				}
				holdTurned(t, frame, pattern)
			}
		}
	}
}

func TestNilIsEmpty(t *testing.T) {
	for _, r := range table {
		bare, empty := least(r), least(r)
		bare.Data, empty.Data = nil, []byte{}
		a, e := unit.Encode(bare)
		b, e2 := unit.Encode(empty)
		if e != e2 || !bytes.Equal(a, b) || unit.Lawful(bare) != unit.Lawful(empty) {
			t.Errorf("R5: kind %d: %x, %d with nil, %x, %d with an empty list", r.kind, a, e, b, e2)
		}
	}
	if unit.Lawful(api.Unit{Kind: api.DevNone, Code: 1, Data: []byte{}}) != api.OK {
		t.Errorf("R5: an empty list is no data")
	}
	holdFrame(t, []byte{}, api.ErrShort)
}

// roomy: the bytes with room behind them that is filled too, and all of that room.
func roomy(b []byte) (list, all []byte) {
	all = append(slices.Clone(b), bytesOf(64, 99)...)
	return all[:len(b)], all
}

// fill overwrites a list, with its room.
func fill(b []byte) {
	b = b[:cap(b)]
	for i := range b {
		b[i] ^= 0xff
	}
}

func TestArgumentsStay(t *testing.T) {
	for _, n := range []int{0, 1, 3, 4, 7, 8, 9, 30} {
		for _, k := range kinds() {
			list, all := roomy(bytesOf(n, uint32(n)))
			kept := slices.Clone(all)
			u := api.Unit{Kind: k, Code: 1, Session: 1, Number: 1, Data: list}
			unit.Lawful(u)
			unit.Size(u)
			unit.Encode(u)
			if !bytes.Equal(all, kept) {
				t.Fatalf("R6: the data of %+v or the room behind it was changed", u)
			}
		}
	}
	for _, frame := range samples() {
		for n := range len(frame) + 1 {
			list, all := roomy(frame[:n])
			kept := slices.Clone(all)
			unit.Decode(list)
			if !bytes.Equal(all, kept) {
				t.Fatalf("R6: the frame %x or the room behind it was changed", frame[:n])
			}
		}
	}
}

func TestRoomIsNotData(t *testing.T) {
	for _, u := range lawful() {
		want := written(u, len(u.Data))
		u.Data, _ = roomy(u.Data)
		if got, e := unit.Encode(u); e != api.OK || !bytes.Equal(got, want) {
			t.Errorf("P4.3: Encode(%+v) of data with room behind it: %x, %d", u, got, e)
		}
	}
}

func TestFramesAreNew(t *testing.T) {
	for _, u := range lawful() {
		list, all := roomy(u.Data)
		kept := slices.Clone(all)
		u.Data = list
		frame, _ := unit.Encode(u)
		want := slices.Clone(frame)
		again, _ := unit.Encode(u)
		fill(frame)
		if !bytes.Equal(all, kept) || !bytes.Equal(again, want) {
			t.Errorf("R6: Encode(%+v) answers memory that is in use", u)
		}
		fill(all)
		if !bytes.Equal(again, want) {
			t.Errorf("R6: the frame of %+v changes with its data", u)
		}
	}
}

func TestUnitsAreNew(t *testing.T) {
	for _, u := range lawful() {
		list, all := roomy(written(u, len(u.Data)))
		kept := slices.Clone(all)
		got, _ := unit.Decode(list)
		again, _ := unit.Decode(list)
		fill(got.Data)
		if !bytes.Equal(all, kept) || !same(again, u) {
			t.Errorf("R6: Decode(%x) answers memory that is in use", list)
		}
		fill(all)
		if !same(again, u) {
			t.Errorf("R6: the unit %+v changes with its frame", u)
		}
	}
}

func TestSameAgain(t *testing.T) {
	units := lawful()
	for i, u := range units {
		before, _ := unit.Encode(u)
		// What other calls did between doesn't matter.
		other, _ := unit.Encode(units[(7*i+1)%len(units)])
		unit.Decode(other)
		unit.Decode(other[1:])
		unit.Lawful(api.Unit{})
		if after, e := unit.Encode(u); e != api.OK || !bytes.Equal(after, before) {
			t.Errorf("R8: Encode(%+v): %x, then %x, %d", u, before, after, e)
		}
	}
}
