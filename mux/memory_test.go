package mux_test

import (
	"bytes"
	"slices"
	"testing"

	"parapet/api"
	"parapet/mux"
)

// spoil changes each byte of a list, with its room, and appends to it.
func spoil(b []byte) {
	all := b[:cap(b)]
	for i := range all {
		all[i] ^= 0xff
	}
	_ = append(b, 0xdd, 0xdd, 0xdd)
}

// spoilCodes: likewise, of codes.
func spoilCodes(list []uint32) {
	all := list[:cap(list)]
	for i := range all {
		all[i] = ^all[i]
	}
	_ = append(list, 0xdd, 0xdd, 0xdd)
}

// roomy is a list of these bytes, with others ahead of it and in its spare room.
func roomy(b []byte) (list, whole []byte) {
	whole = bytes.Repeat([]byte{0x5a}, len(b)+24)
	copy(whole[8:], b)
	return whole[8 : 8+len(b)], whole
}

// inPlaces: muxes whose devices stand at unlike places.
func inPlaces(t *testing.T) []*bench {
	t.Helper()
	var list []*bench
	for i := range 6 {
		k := with(t, sets[:i+2]...)
		for _, p := range sets[:i+2] {
			switch {
			case p.Code == nine.Code || i > 3:
				k.turnOn(p, 1)
			case i > 1:
				k.run(p, 1)
			case i > 0:
				k.hears(wish(p), api.DevOffer, api.OK)
			}
		}
		list = append(list, k)
	}
	return list
}

// lists: each call that answers codes.
func lists(m *mux.Mux) map[string]func() []uint32 {
	return map[string]func() []uint32{"Codes": m.Codes, "On": m.On}
}

// A list that is changed changes nothing that is kept, nor an earlier or a later one.
func TestListsAreNew(t *testing.T) {
	long := 0
	for _, k := range inPlaces(t) {
		for name, ask := range lists(k.m) {
			want := slices.Clone(ask())
			long = max(long, len(want))
			earlier := ask()
			spoilCodes(ask())
			if !slices.Equal(earlier, want) {
				t.Errorf("R6: %s: a list that is changed changes an earlier one: %d, not %d", name, earlier, want)
			}
			if got := ask(); !slices.Equal(got, want) {
				t.Errorf("R6: %s: a list that is changed changes a later one: %d, not %d", name, got, want)
			}
			for other, askOther := range lists(k.m) {
				kept := askOther()
				was := slices.Clone(kept)
				spoilCodes(ask())
				if !slices.Equal(kept, was) {
					t.Errorf("R6: %s: changed by a list of %s: %d, not %d", other, name, kept, was)
				}
			}
			a, b := append(ask(), 1), append(ask(), 2)
			if !slices.Equal(a, append(slices.Clone(want), 1)) || !slices.Equal(b, append(slices.Clone(want), 2)) {
				t.Errorf("R6: %s: two that grow meet: %d, %d", name, a, b)
			}
			k.holds()
		}
	}
	if long < 7 {
		t.Errorf("too little was tried: %d codes", long)
	}
}

// What was answered stays as it was, in its room too, whatever is called behind it.
func TestListsStay(t *testing.T) {
	for _, k := range inPlaces(t) {
		codes, on := k.m.Codes(), k.m.On()
		were, wereOn := slices.Clone(codes[:cap(codes)]), slices.Clone(on[:cap(on)])
		k.add(newEnd(t, sets[7]))
		k.turnOn(sets[7], 1)
		k.m.Codes()
		k.m.On()
		k.tick(api.MaxTicks)
		k.m.On()
		if !slices.Equal(codes[:cap(codes)], were) || !slices.Equal(on[:cap(on)], wereOn) {
			t.Errorf("R6: earlier lists: %d, %d, not %d, %d", codes, on, were, wereOn)
		}
		k.holds()
	}
}

// comings: frames of all sorts for the devices of a bench.
func comings(t *testing.T, sets []api.Param) [][]byte {
	t.Helper()
	frames := [][]byte{nil, {1, 2}, encode(t, wish(nobody))}
	for _, b := range strange(t, 9) {
		frames = append(frames, b)
	}
	for _, p := range sets {
		for _, u := range []api.Unit{wish(p), echo(p, 1), start(p, 1), data(p, 1, 1, 3), data(p, 1, 2, 3), last(p, 1), {Kind: api.DevNone, Code: p.Code}} {
			frames = append(frames, encode(t, u), garbled(t, u))
		}
	}
	return frames
}

// A frame is neither changed nor kept, with the room around it.
func TestReceiveKeepsNothing(t *testing.T) {
	for i := range 6 {
		for _, frame := range comings(t, sets[:i+2]) {
			k := inPlaces(t)[i]
			list, whole := roomy(frame)
			was := bytes.Clone(whole)
			answer, _ := k.hear(list)
			if !bytes.Equal(whole, was) {
				t.Fatalf("R6: Receive changes the frame % x, or the room around it", frame)
			}
			said := bytes.Clone(answer)
			spoil(whole)
			if !bytes.Equal(answer, said) {
				t.Fatalf("R6: Receive answers what it was handed: % x", frame)
			}
			k.holds()
			was = bytes.Clone(whole)
			spoil(answer)
			for _, p := range sets[:i+2] {
				k.hear(encode(t, data(p, 1, 3, 9)))
			}
			k.tick(3)
			k.holds()
			if !bytes.Equal(whole, was) {
				t.Fatalf("R6: what was handed in is written later: % x", frame)
			}
		}
	}
}

// An answer's frame is its own: changed, it changes nothing that is kept, nor an earlier or a later one.
func TestAnswersAreNew(t *testing.T) {
	answered := 0
	for i := range 6 {
		k := inPlaces(t)[i]
		var answers [][]byte
		var were []string
		for _, frame := range comings(t, sets[:i+2]) {
			for range 2 {
				answer, _ := k.hear(frame)
				answers = append(answers, answer)
				were = append(were, string(answer[:cap(answer)]))
				// The next one is spoilt: the bench's lone devices know nothing of it.
				next, _ := k.hear(frame)
				spoil(next)
				k.holds()
				if len(answer) > 0 {
					answered++
				}
			}
		}
		for n, answer := range answers {
			if string(answer[:cap(answer)]) != were[n] {
				t.Fatalf("R6: an earlier answer changes: % x, not % x", answer, were[n])
			}
		}
	}
	if answered < 200 {
		t.Errorf("too little was tried: %d answers", answered)
	}
}

// One list that is used again for each frame.
func TestReceiveOneList(t *testing.T) {
	k := with(t, seven, nine)
	list := make([]byte, 0, 64)
	for n := range uint32(8) {
		for _, u := range []api.Unit{wish(seven), wish(nine), echo(seven, 1), echo(nine, 1), start(seven, 1), start(nine, 1), data(seven, 1, n, byte(n)), data(nine, 1, n, byte(n))} {
			if u.Kind == api.HostData && n == 0 || u.Kind != api.HostData && n > 0 {
				continue
			}
			list = append(list[:0], encode(t, u)...)
			k.hear(list)
			spoil(list)
			k.holds()
		}
	}
	k.holdOn(7, 9)
}
