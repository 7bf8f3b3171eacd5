package mux_test

import (
	"bytes"
	"math"
	"slices"
	"testing"

	"parapet/api"
	"parapet/crc"
	"parapet/device"
	"parapet/mem"
	"parapet/mux"
	"parapet/param"
	"parapet/unit"
)

const (
	greatest = math.MaxUint32
	top      = math.MaxInt64
	least    = math.MinInt64
)

// seven and nine are the chapter's two; nobody is a set whose device hangs nowhere.
var (
	seven  = api.Param{Code: 7, Out: 2, In: 1, Watch: 10, Count: 9}
	nine   = api.Param{Code: 9, Out: 1, In: 8, Watch: 3, Count: 100}
	nobody = api.Param{Code: 8, Out: 2, In: 1, Watch: 10, Count: 9}
)

// sets: as many as a mux takes, and unlike; their codes in no order.
var sets = [api.MaxConns]api.Param{
	nine, seven,
	{Code: greatest, Out: 8, In: 2, Watch: 1, Count: 4},
	{Code: 1, Out: 3, In: 3, Watch: 20, Count: greatest},
	{Code: 1 << 24, Out: 2, In: 1, Watch: 5, Count: 2},
	{Code: 1 << 16, Out: 1, In: 1, Watch: api.MaxTicks, Count: 50},
	{Code: 1 << 31, Out: 4, In: 5, Watch: 7, Count: 3},
	{Code: 256, Out: 2, In: 1, Watch: 10, Count: 9},
}

// end is a device of a mux, and a lone one with the same set, which is told the same and nothing else.
type end struct {
	set              api.Param
	hung, lone       *device.Device
	hungMem, loneMem *mem.Mem
	seen             int
}

// newDevice: with sessions up to 9.
func newDevice(t *testing.T, p api.Param) (*device.Device, *mem.Mem) {
	t.Helper()
	return deviceUpTo(t, p, 9)
}

func deviceUpTo(t *testing.T, p api.Param, sessions uint32) (*device.Device, *mem.Mem) {
	t.Helper()
	m, e := mem.New(16)
	if e != api.OK {
		t.Fatalf("P7.1: New(16): %d", e)
	}
	d, e := device.New(p, m, sessions)
	if e != api.OK {
		t.Fatalf("P13.1: New(%+v): %d", p, e)
	}
	return d, m
}

func newEnd(t *testing.T, p api.Param) *end {
	t.Helper()
	x := &end{set: p}
	x.hung, x.hungMem = newDevice(t, p)
	x.lone, x.loneMem = newDevice(t, p)
	return x
}

// elsewhere: something is done to both past the mux.
func (x *end) elsewhere(do func(d *device.Device, m *mem.Mem)) {
	do(x.hung, x.hungMem)
	do(x.lone, x.loneMem)
}

// bench is a mux, the ends that hang on it, and what it should have counted.
type bench struct {
	t    *testing.T
	m    *mux.Mux
	ends map[uint32]*end
	lost int
}

// with: a mux with devices of these sets.
func with(t *testing.T, sets ...api.Param) *bench {
	t.Helper()
	k := &bench{t: t, m: mux.New(), ends: map[uint32]*end{}}
	if k.m == nil {
		t.Fatal("P16.1: New: nil")
	}
	for _, p := range sets {
		k.add(newEnd(t, p))
	}
	if len(k.ends) != len(sets) {
		t.Fatalf("P16.1: %d devices, not %d", len(k.ends), len(sets))
	}
	return k
}

// add: Add, held against what the bench says comes of it.
func (k *bench) add(x *end) {
	k.t.Helper()
	want := api.OK
	switch {
	case k.ends[x.set.Code] != nil:
		want = api.ErrTwice
	case len(k.ends) == api.MaxConns:
		want = api.ErrFull
	default:
		k.ends[x.set.Code] = x
	}
	if e := k.m.Add(x.hung); e != want {
		k.t.Fatalf("P16.1: Add of the code %d to %d devices: %d, not %d", x.set.Code, len(k.ends), e, want)
	}
}

// hear: Receive, likewise; it answers what the mux did.
func (k *bench) hear(frame []byte) ([]byte, api.Errno) {
	k.t.Helper()
	var code uint32
	var answer []byte
	u, want := unit.Decode(frame)
	x := k.ends[u.Code]
	switch {
	case want != api.OK:
		k.lost++
	case x == nil:
		want = api.ErrCode
		k.lost++
	default:
		x.seen++
		code = u.Code
		answer, want = x.lone.Receive(frame)
	}
	got, said, e := k.m.Receive(frame)
	if got != code || !bytes.Equal(said, answer) || e != want {
		k.t.Fatalf("P16.2, P16.4: Receive(% x): %d, % x, %d, not %d, % x, %d", frame, got, said, e, code, answer, want)
	}
	return said, e
}

// hears: a unit comes, and is answered by one of this kind (0: none), with this error.
func (k *bench) hears(u api.Unit, kind api.Kind, want api.Errno) {
	k.t.Helper()
	answer, e := k.hear(encode(k.t, u))
	back, _ := unit.Decode(answer)
	if e != want || back.Kind != kind || (kind == 0) != (len(answer) == 0) {
		k.t.Fatalf("P16.2: Receive of %+v: % x, %d, not the kind %d, %d", u, answer, e, kind, want)
	}
}

// tick: Tick, likewise.
func (k *bench) tick(n int) {
	k.t.Helper()
	want := api.OK
	if n < 0 {
		want = api.ErrRange
	} else {
		for _, x := range k.ends {
			x.lone.Tick(n)
		}
	}
	if e := k.m.Tick(n); e != want {
		k.t.Fatalf("P16.3: Tick(%d): %d, not %d", n, e, want)
	}
}

// codes: of the ends for which something holds, rising.
func (k *bench) codes(holds func(x *end) bool) []uint32 {
	var list []uint32
	for code, x := range k.ends {
		if holds(x) {
			list = append(list, code)
		}
	}
	slices.Sort(list)
	return list
}

// counts: Codes, On, Seen and Lost are as they should be; twice, since asking changes nothing.
func (k *bench) counts() {
	k.t.Helper()
	all := k.codes(func(*end) bool { return true })
	on := k.codes(func(x *end) bool { return x.lone.See().On })
	for range 2 {
		if got := k.m.Codes(); !slices.Equal(got, all) {
			k.t.Fatalf("P16.3: Codes: %d, not %d", got, all)
		}
		if got := k.m.On(); !slices.Equal(got, on) {
			k.t.Fatalf("P16.3: On: %d, not %d", got, on)
		}
		if got := k.m.Lost(); got != k.lost {
			k.t.Fatalf("P16.3: Lost: %d, not %d", got, k.lost)
		}
		for _, code := range append([]uint32{0, 2, nobody.Code, greatest - 1}, all...) {
			want := 0
			if x := k.ends[code]; x != nil {
				want = x.seen
			}
			if got := k.m.Seen(code); got != want {
				k.t.Fatalf("P16.3: Seen(%d): %d, not %d", code, got, want)
			}
		}
	}
}

// holds: the counts, and each device looks as the lone one.
func (k *bench) holds() {
	k.t.Helper()
	k.counts()
	for code, x := range k.ends {
		if got, want := x.hung.See(), x.lone.See(); !sameEnd(got, want) {
			k.t.Fatalf("P16.4: the device %d: %+v, not %+v", code, got, want)
		}
		got, n := x.hung.Log()
		want, total := x.lone.Log()
		if !slices.Equal(got, want) || n != total {
			k.t.Fatalf("P16.4: the records of %d: %v, %d, not %v, %d", code, got, n, want, total)
		}
		if !bytes.Equal(x.hungMem.Bytes(), x.loneMem.Bytes()) {
			k.t.Fatalf("P16.4: the memory of %d: % x, not % x", code, x.hungMem.Bytes(), x.loneMem.Bytes())
		}
	}
}

func sameEnd(a, b api.End) bool {
	if !bytes.Equal(a.Out, b.Out) {
		return false
	}
	a.Out, b.Out = nil, nil
	return a.State == b.State && a.Session == b.Session && a.Number == b.Number && a.Sent == b.Sent &&
		a.Since == b.Since && a.Latched == b.Latched && a.Request == b.Request && a.On == b.On
}

// signature: the bytes of the set's signature.
func signature(p api.Param) []byte {
	s, _ := param.Signature(p)
	return param.Bytes(s)
}

// The host's units.

func wish(p api.Param) api.Unit {
	return api.Unit{Kind: api.HostParam, Code: p.Code, Data: signature(p)}
}

func echo(p api.Param, session uint32) api.Unit {
	return api.Unit{Kind: api.HostEcho, Code: p.Code, Session: session, Data: signature(p)}
}

func start(p api.Param, session uint32) api.Unit {
	return api.Unit{Kind: api.HostStart, Code: p.Code, Session: session}
}

// data: its value begins with this byte.
func data(p api.Param, session, number uint32, first byte) api.Unit {
	return api.Unit{Kind: api.HostData, Code: p.Code, Session: session, Number: number, Data: value(p.Out, first)}
}

func last(p api.Param, session uint32) api.Unit {
	return api.Unit{Kind: api.HostLast, Code: p.Code, Session: session, Number: p.Count}
}

// value: n bytes, beginning so.
func value(n int, first byte) []byte {
	b := make([]byte, n)
	for i := range b {
		b[i] = first + byte(i)
	}
	return b
}

func encode(t *testing.T, u api.Unit) []byte {
	t.Helper()
	b, e := unit.Encode(u)
	if e != api.OK {
		t.Fatalf("P4.3: Encode(%+v): %d", u, e)
	}
	return b
}

// garbled: the unit's frame with some bits turned.
func garbled(t *testing.T, u api.Unit) []byte {
	t.Helper()
	b := encode(t, u)
	b[3] ^= 0x18
	return b
}

// run: the device of this set comes to Running in this session, which is its next one.
func (k *bench) run(p api.Param, session uint32) {
	k.t.Helper()
	k.hears(wish(p), api.DevOffer, api.OK)
	k.hears(echo(p, session), api.DevAgreed, api.OK)
	k.hears(start(p, session), api.DevStarted, api.OK)
}

// turnOn: likewise, and its output is on.
func (k *bench) turnOn(p api.Param, session uint32) {
	k.t.Helper()
	k.run(p, session)
	k.hears(data(p, session, 1, 0xa0), api.DevData, api.OK)
}

// bringDown: the device's power goes.
func (k *bench) bringDown(p api.Param) {
	k.t.Helper()
	k.ends[p.Code].elsewhere(func(_ *device.Device, m *mem.Mem) { m.Arm(0) })
	k.hears(wish(p), 0, api.ErrCut)
	if s := k.ends[p.Code].hung.See().State; s != api.Down {
		k.t.Fatalf("P13.3: the device %d is in the state %d", p.Code, s)
	}
}

// strange: bytes that unit.Decode takes for nothing, with its error for each; the code's device may be there.
func strange(t *testing.T, code uint32) map[api.Errno][]byte {
	t.Helper()
	raw := func(kind, session, number, flags, said byte, data ...byte) []byte {
		b := []byte{kind, byte(code >> 24), byte(code >> 16), byte(code >> 8), byte(code), 0, 0, 0, session, 0, 0, 0, number, flags, said}
		return crc.Seal(append(b, data...))
	}
	whole := raw(byte(api.HostData), 1, 1, 0, 2, 1, 2)
	noCode := bytes.Clone(whole[:len(whole)-4])
	clear(noCode[1:5])
	broken := bytes.Clone(whole)
	broken[len(broken)-1] ^= 1
	list := map[api.Errno][]byte{
		api.ErrShort:   whole[:18],
		api.ErrLong:    raw(byte(api.HostData), 1, 1, 0, 9, 1, 2, 3, 4, 5, 6, 7, 8, 9),
		api.ErrCheck:   broken,
		api.ErrKind:    raw(6, 1, 1, 0, 0),
		api.ErrCode:    crc.Seal(noCode),
		api.ErrLength:  raw(byte(api.HostStart), 1, 0, 0, 1, 1),
		api.ErrSession: raw(byte(api.HostStart), 0, 0, 0, 0),
		api.ErrNumber:  raw(byte(api.HostStart), 1, 1, 0, 0),
		api.ErrFlags:   raw(byte(api.HostStart), 1, 0, 1, 0),
	}
	for want, b := range list {
		if _, e := unit.Decode(b); e != want {
			t.Fatalf("P4.4: Decode(% x): %d, not %d", b, e, want)
		}
	}
	return list
}
