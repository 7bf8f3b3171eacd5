package param_test

import (
	"bytes"
	"testing"

	"parapet/api"
	"parapet/param"
)

// fill overwrites a list and all of its spare room, and appends to it.
func fill(b []byte) {
	all := b[:cap(b)]
	for i := range all {
		all[i] = 0xee
	}
	_ = append(b, 0xdd, 0xdd, 0xdd)
}

// roomy is a list of these bytes, with others ahead of it and in its spare room.
func roomy(b []byte) (list, whole []byte) {
	whole = bytes.Repeat([]byte{0x5a}, len(b)+24)
	copy(whole[8:], b)
	return whole[8 : 8+len(b)], whole
}

// Nothing that is handed in changes, spare room included.
func TestArgumentsStay(t *testing.T) {
	for _, data := range [][]byte{nil, {1}, {1, 2, 3}, unhex("f8b45b50"), unhex("f8b45b51"), unhex("f8b45b5000"), unhex(exampleBytes), make([]byte, 14), make([]byte, 15)} {
		list, whole := roomy(data)
		was := bytes.Clone(whole)
		param.Decode(list)
		param.Match(example, list)
		param.Match(api.Param{}, list)
		if !bytes.Equal(whole, was) {
			t.Errorf("R6: with %x: %x, not %x", data, whole, was)
		}
	}
}

// What was handed in may be changed behind the call: the answers stay.
func TestArgumentsAreNotKept(t *testing.T) {
	list, whole := roomy(unhex(exampleBytes))
	p, e := param.Decode(list)
	fill(whole)
	if e != api.OK || p != example {
		t.Errorf("R6: Decode, its bytes changed: %+v, %d", p, e)
	}
	four, whole := roomy(unhex("f8b45b50"))
	ok, e := param.Match(example, four)
	fill(whole)
	if again, f := param.Match(example, unhex("f8b45b50")); !ok || e != api.OK || !again || f != api.OK {
		t.Errorf("R6: Match, its data changed: %v, %d, then %v, %d", ok, e, again, f)
	}
	if again, f := param.Match(example, four); again || f != api.OK {
		t.Errorf("R8: Match of the changed data: %v, %d", again, f)
	}
}

// Changed or appended to, an answer changes neither an earlier nor a later one.
func TestAnswersAreNew(t *testing.T) {
	other := api.Param{Code: 0x01020304, Out: 8, In: 8, Watch: 1 << 20, Count: most}
	encode := func(p api.Param) []byte {
		b, _ := param.Encode(p)
		return b
	}
	for _, answer := range []func() []byte{
		func() []byte { return encode(example) },
		func() []byte { return encode(other) },
		func() []byte { return param.Bytes(0) },
		func() []byte { return param.Bytes(most) },
		func() []byte { return param.Bytes(exampleSignature) },
	} {
		earlier := answer()
		want := bytes.Clone(earlier)
		changed := answer()
		fill(changed)
		later := answer()
		if !bytes.Equal(earlier, want) || !bytes.Equal(later, want) {
			t.Errorf("R6: an answer was changed: ahead of it %x, behind it %x, not %x", earlier, later, want)
		}
		fill(earlier)
		if !bytes.Equal(later, want) {
			t.Errorf("R6: an earlier answer was changed: the later is %x, not %x", later, want)
		}
	}
}

// Spare room isn't shared either: what is appended to one answer is not to be seen in another.
func TestSpareRoomIsNew(t *testing.T) {
	var lists [][]byte
	for i := range 200 {
		b, _ := param.Encode(api.Param{Code: uint32(i + 1), Out: 1, In: 1, Watch: 1, Count: 2})
		lists = append(lists, b, param.Bytes(uint32(i)))
	}
	for i := range lists {
		whole := lists[i][:cap(lists[i])]
		for k := range whole {
			whole[k] = byte(i)
		}
	}
	for i, list := range lists {
		for k, x := range list[:cap(list)] {
			if x != byte(i) {
				t.Fatalf("R6: the answer %d has %d at %d: another one's", i, x, k)
			}
		}
	}
}

// The same again, in any order and with others between.
func TestSameAgain(t *testing.T) {
	s := &steps{at: 8}
	var some []api.Param
	for range 200 {
		p := s.set()
		if s.below(3) == 0 {
			p.Watch = -p.Watch
		}
		some = append(some, p)
	}
	for range 3 {
		for i := range some {
			holdSet(t, some[len(some)-1-i])
			holdSet(t, some[i])
		}
	}
}

// An error, or a set of another connection, leaves nothing behind.
func TestErrorsLeaveNothing(t *testing.T) {
	for _, b := range [][]byte{nil, make([]byte, 13), make([]byte, 14), bytes.Repeat([]byte{255}, 14), make([]byte, 15)} {
		for range 3 {
			if p, e := param.Decode(b); e == api.OK || p != (api.Param{}) {
				t.Errorf("R3: Decode(%x): %+v, %d", b, p, e)
			}
		}
		if p, e := param.Decode(unhex(exampleBytes)); e != api.OK || p != example {
			t.Errorf("R8: Decode behind %x: %+v, %d", b, p, e)
		}
		holdSet(t, example)
	}
}
