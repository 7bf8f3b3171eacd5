package device_test

import (
	"bytes"
	"slices"
	"testing"

	"parapet/api"
)

// spoil changes each byte of a list, with its room, and appends to it.
func spoil(b []byte) {
	all := b[:cap(b)]
	for i := range all {
		all[i] ^= 0xff
	}
	_ = append(b, 0xdd, 0xdd, 0xdd)
}

// roomy is a list of these bytes, with others ahead of it and in its spare room.
func roomy(b []byte) (list, whole []byte) {
	whole = bytes.Repeat([]byte{0x5a}, len(b)+24)
	copy(whole[8:], b)
	return whole[8 : 8+len(b)], whole
}

func TestFramesStayAsTheyAre(t *testing.T) {
	frames, _ := strays(t)
	for _, place := range places {
		for _, a := range each(place) {
			frames = append(frames, encode(t, a.u, 7))
		}
	}
	for _, place := range places {
		for _, frame := range frames {
			b := at(t, small, place)
			list, whole := roomy(frame)
			was := bytes.Clone(whole)
			answer, _ := b.d.Receive(list)
			if !bytes.Equal(whole, was) {
				t.Fatalf("R6: Receive changes the frame % x, or the room around it", frame)
			}
			// Nor is it kept: what shows, and what is answered, isn't in it.
			shown, said := b.d.See(), bytes.Clone(answer)
			spoil(whole)
			if !sameEnd(b.d.See(), shown) || !bytes.Equal(answer, said) {
				t.Fatalf("R6: Receive keeps or answers the frame % x", frame)
			}
			was = bytes.Clone(whole)
			spoil(answer)
			b.d.Receive(b.frame(data(1, 2, 9, 9)))
			b.d.Tick(10)
			b.d.Reset(0)
			if !bytes.Equal(whole, was) {
				t.Fatalf("R6: what was handed in is written later: % x", frame)
			}
		}
	}
}

func TestWriteKeepsNothing(t *testing.T) {
	for _, p := range sets {
		b := fresh(t, p)
		value := bytes.Repeat([]byte{0x21}, p.In)
		list, whole := roomy(value)
		was := bytes.Clone(whole)
		b.write(list, false, api.OK)
		b.d.Write(append(list, 1), false)
		b.d.Write(list[:p.In-1], false)
		if !bytes.Equal(whole[8:8+p.In], value) || !bytes.Equal(whole[:8], was[:8]) {
			t.Errorf("R6: Write changes its list")
		}
		spoil(whole)
		was = bytes.Clone(whole)
		b.bring(1, begun)
		b.hear(data(1, 1, b.value(1)...), api.OK, back(1, 1, 0, value...))
		if p.Count > 3 {
			b.hear(data(1, 2, b.value(1)...), api.OK, back(1, 2, 0, value...))
		}
		b.d.Write(bytes.Repeat([]byte{0x22}, p.In), true)
		b.d.Reset(0)
		if !bytes.Equal(whole, was) {
			t.Errorf("R6: what was handed to Write is written later")
		}
	}
}

// An answer of Receive is its own: changed, it changes neither an earlier nor
// a later one, nor what is kept.
func TestAnswersAreNew(t *testing.T) {
	for _, place := range places {
		if place == down {
			continue
		}
		for _, a := range each(place) {
			b, other := at(t, small, place), at(t, small, place)
			b.write([]byte{0x66}, false, api.OK)
			other.write([]byte{0x66}, false, api.OK)
			first, _ := b.d.Receive(b.frame(a.u))
			kept := bytes.Clone(first)
			clean, _ := other.d.Receive(b.frame(a.u))
			spoil(clean)
			// The first stays, whatever comes; the other device, whose answers are spoilt, goes the same way.
			for _, u := range []api.Unit{wish(small), echo(small, 1), start(1), data(1, 2, 3, 4), data(1, 2, 3, 4), last(1, 3), wish(small)} {
				want, e := b.d.Receive(b.frame(u))
				got, e2 := other.d.Receive(b.frame(u))
				if !bytes.Equal(got, want) || e != e2 {
					t.Fatalf("R6: behind a spoilt answer: % x, %d, not % x, %d", got, e2, want, e)
				}
				spoil(got)
				if !sameEnd(other.d.See(), b.d.See()) {
					t.Fatalf("R6: a spoilt answer changes what is kept")
				}
			}
			if !bytes.Equal(first, kept) {
				t.Fatalf("R6: an earlier answer changes")
			}
		}
	}
}

func TestSeeIsNew(t *testing.T) {
	for _, p := range []api.Param{small, plain} {
		for _, place := range places {
			b := at(t, p, place)
			want := looks(p, place)
			first, second := b.d.See(), b.d.See()
			spoil(first.Out)
			b.see(want)
			spoil(second.Out)
			b.see(want)
			if got := b.d.See(); len(got.Out) != p.Out {
				t.Errorf("P13.5: Out has %d bytes, not %d", len(got.Out), p.Out)
			}
			kept := b.d.See()
			was := bytes.Clone(kept.Out)
			b.d.Receive(b.frame(data(1, 2, b.value(0x31)...)))
			b.d.Tick(20)
			b.d.Reset(0)
			if !bytes.Equal(kept.Out, was) {
				t.Errorf("R6: an earlier answer of See changes")
			}
		}
	}
}

func TestLogIsNew(t *testing.T) {
	b := fresh(t, plain)
	for n := range 3 * api.MaxRecords {
		want, total := b.d.Log()
		if total != n {
			t.Fatalf("P13.5: Log: %d were noted, not %d", total, n)
		}
		want = slices.Clone(want)
		got, _ := b.d.Log()
		for i := range got[:cap(got)] {
			got[:cap(got)][i] = api.Record{At: -1, Code: 99}
		}
		_ = append(got, api.Record{At: -2})
		again, total := b.d.Log()
		if !slices.Equal(again, want) || total != n {
			t.Fatalf("R6: behind a spoilt Log: %v, not %v", again, want)
		}
		b.hear(start(1), api.ErrStale, none(0))
		if !slices.Equal(again, want) {
			t.Fatalf("R6: an earlier Log changes")
		}
		b.log(n+1, record(n+1, api.ErrStale, 0, 0))
	}
}

// The records go on over resets and cuts; the last ones are kept.
func TestLog(t *testing.T) {
	b := fresh(t, plain)
	var want []api.Record
	for i := range 40 {
		switch i % 4 {
		case 0:
			b.hearBytes(nil, api.ErrShort, nothing)
			want = append(want, record(len(want)+1, api.ErrShort, 0, 0))
		case 1:
			b.hear(start(1), api.ErrStale, none(0))
			want = append(want, record(len(want)+1, api.ErrStale, 0, 0))
		case 2:
			b.reset(0, api.OK)
		case 3:
			b.tick(10, api.OK)
			want = append(want, record(len(want)+1, api.ErrWatchdog, 0, 0))
		}
		b.log(len(want), want[max(0, len(want)-api.MaxRecords):]...)
	}
}
