package host_test

import (
	"bytes"
	"slices"
	"testing"

	"parapet/api"
)

// spoil changes each byte of a list, with its room, and appends to it.
func spoil(b []byte) {
	all := b[:cap(b)]
	for i := range all {
		all[i] ^= 0xff
	}
	_ = append(b, 0xdd, 0xdd, 0xdd)
}

// roomy is a list of these bytes, with others ahead of it and in its spare room.
func roomy(b []byte) (list, whole []byte) {
	whole = bytes.Repeat([]byte{0x5a}, len(b)+24)
	copy(whole[8:], b)
	return whole[8 : 8+len(b)], whole
}

func TestFramesStayAsTheyAre(t *testing.T) {
	frames, _ := strays(t)
	for _, u := range everyUnit() {
		frames = append(frames, encode(t, u, 7))
	}
	for _, place := range places {
		for _, frame := range frames {
			b := at(t, plain, place)
			list, whole := roomy(frame)
			was := bytes.Clone(whole)
			b.h.Receive(list)
			if !bytes.Equal(whole, was) {
				t.Fatalf("R6: Receive changes the frame % x, or the room around it", frame)
			}
			// Nor is it kept: what shows isn't in it.
			shown := b.h.See()
			spoil(whole)
			if !sameEnd(b.h.See(), shown) {
				t.Fatalf("R6: Receive keeps the frame % x", frame)
			}
			was = bytes.Clone(whole)
			b.h.Receive(b.frame(back(4, 50, 9)))
			sent, _ := b.h.Send()
			spoil(sent)
			spoil(b.h.See().Out)
			b.h.Tick(10)
			b.h.Reset()
			if !bytes.Equal(whole, was) {
				t.Fatalf("R6: what was handed in is written later: % x", frame)
			}
		}
	}
}

func TestWriteKeepsNothing(t *testing.T) {
	for _, p := range sets {
		b := fresh(t, p)
		v := bytes.Repeat([]byte{0x21}, p.Out)
		list, whole := roomy(v)
		was := bytes.Clone(whole)
		b.write(list, false, api.OK)
		b.write(list[:p.Out-1], false, api.ErrLength)
		b.write(whole, false, api.ErrLength)
		if !bytes.Equal(whole, was) {
			t.Errorf("R6: Write changes its list, or the room around it")
		}
		// Changed behind the call, it is none of the host's.
		spoil(whole)
		was = bytes.Clone(whole)
		b.bring(1, begun)
		b.send(data(1, 1, api.FlagPassive, v...))
		if p.Count > 3 {
			b.send(data(1, 2, api.FlagPassive, v...))
		}
		b.h.Write(bytes.Repeat([]byte{0x22}, p.Out), true)
		b.h.Reset()
		if !bytes.Equal(whole, was) {
			t.Errorf("R6: what was handed to Write is written later")
		}
	}
}

// A frame is its own: changed, it changes neither an earlier nor a later one,
// nor what is kept.
func TestFramesAreNew(t *testing.T) {
	for _, place := range places {
		b, other := at(t, plain, place), at(t, plain, place)
		b.write([]byte{0x66, 0x67}, false, api.OK)
		other.write([]byte{0x66, 0x67}, false, api.OK)
		first, _ := b.h.Send()
		kept := bytes.Clone(first)
		clean, _ := other.h.Send()
		spoil(clean)
		// The first stays, whatever comes; the other host, whose frames are spoilt, goes the same way.
		for _, u := range []api.Unit{offer(plain, 5), agreed(4), started(4), back(4, 2, 3), none(4), agreed(5), started(5), back(5, 3, 1), lastBack(5, 100)} {
			if e, e2 := b.h.Receive(b.frame(u)), other.h.Receive(b.frame(u)); e != e2 {
				t.Fatalf("R6: behind a spoilt frame: %d, not %d", e2, e)
			}
			want, e := b.h.Send()
			got, e2 := other.h.Send()
			if !bytes.Equal(got, want) || e != e2 {
				t.Fatalf("R6: behind a spoilt frame: % x, %d, not % x, %d", got, e2, want, e)
			}
			spoil(got)
			if !sameEnd(other.h.See(), b.h.See()) {
				t.Fatalf("R6: a spoilt frame changes what is kept")
			}
		}
		b.h.Reset()
		if !bytes.Equal(first, kept) {
			t.Fatalf("R6: an earlier frame changes")
		}
	}
}

func TestSeeIsNew(t *testing.T) {
	for _, p := range []api.Param{small, plain} {
		for _, place := range places {
			b := at(t, p, place)
			want := looks(p, place)
			first, second := b.h.See(), b.h.See()
			spoil(first.Out)
			b.see(want)
			spoil(second.Out)
			b.see(want)
			kept := b.h.See()
			was := bytes.Clone(kept.Out)
			if len(was) != p.In {
				t.Errorf("P14.4: Out has %d bytes, not %d", len(was), p.In)
			}
			b.h.Receive(b.frame(back(4, 2, value(p, 0x31)...)))
			b.h.Tick(20)
			b.h.Reset()
			if !bytes.Equal(kept.Out, was) {
				t.Errorf("R6: an earlier answer of See changes")
			}
		}
	}
}

func TestLogIsNew(t *testing.T) {
	b := fresh(t, plain)
	for n := range 3 * api.MaxRecords {
		want, total := b.h.Log()
		if total != n {
			t.Fatalf("P14.4: Log: %d were noted, not %d", total, n)
		}
		want = slices.Clone(want)
		got, _ := b.h.Log()
		for i := range got[:cap(got)] {
			got[:cap(got)][i] = api.Record{At: -1, Code: 99}
		}
		_ = append(got, api.Record{At: -2})
		again, total := b.h.Log()
		if !slices.Equal(again, want) || total != n {
			t.Fatalf("R6: behind a spoilt Log: %v, not %v", again, want)
		}
		b.hear(started(1), api.ErrStale)
		if !slices.Equal(again, want) {
			t.Fatalf("R6: an earlier Log changes")
		}
		b.log(n+1, record(n+1, api.ErrStale, 0, 0))
	}
}

// The records go on over resets; the last ones are kept, in each state.
func TestLog(t *testing.T) {
	b := fresh(t, small)
	var want []api.Record
	for _, place := range places {
		b.bring(4, place)
		was := looks(small, place)
		if noted(place) > 0 {
			want = append(want, record(len(want)+1, api.ErrExhausted, 4, was.Number))
		}
		b.hearBytes(nil, api.ErrShort)
		want = append(want, record(len(want)+1, api.ErrShort, was.Session, was.Number))
		b.hear(none(9), api.ErrStale)
		want = append(want, record(len(want)+1, api.ErrStale, was.Session, was.Number))
		b.tick(10, api.OK)
		if was.Latched == api.OK {
			want = append(want, record(len(want)+1, api.ErrWatchdog, was.Session, was.Number))
		}
		b.log(len(want), want[max(0, len(want)-api.MaxRecords):]...)
		b.reset()
		b.log(len(want), want[max(0, len(want)-api.MaxRecords):]...)
	}
	if len(want) <= api.MaxRecords {
		t.Errorf("too little was noted: %d", len(want))
	}
}
