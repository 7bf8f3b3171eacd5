package script_test

import (
	"slices"
	"strings"
	"testing"

	"parapet/api"
	"parapet/script"
)

// Each kind's line, as the words of it and as the move.
func TestReadLines(t *testing.T) {
	for _, v := range []struct {
		line string
		want api.Move
	}{
		{"write 0 h x", api.Move{Kind: api.MoveWrite, Side: h}},
		{"write 1 d xab00", api.Move{Kind: api.MoveWrite, Conn: 1, Side: d, Data: []byte{0xab, 0}}},
		{"write 1 d xab00 hold", api.Move{Kind: api.MoveWrite, Conn: 1, Side: d, Data: []byte{0xab, 0}, Hold: true}},
		{"write 0 h x hold", api.Move{Kind: api.MoveWrite, Side: h, Hold: true}},
		{"write 3 d x00010f109aa9f0ff", api.Move{Kind: api.MoveWrite, Conn: 3, Side: d, Data: []byte{0, 1, 0x0f, 0x10, 0x9a, 0xa9, 0xf0, 0xff}}},
		{"send 4294967295", api.Move{Kind: api.MoveSend, Conn: most}},
		{"deliver 1 h 20", api.Move{Kind: api.MoveDeliver, Conn: 1, Side: h, Frame: 20}},
		{"garble 1 d 2 3 4294967295", api.Move{Kind: api.MoveGarble, Conn: 1, Side: d, Frame: 2, At: 3, Word: most}},
		{"tick 4 d 4294967295", api.Move{Kind: api.MoveTick, Conn: 4, Side: d, N: most}},
		{"ack 5 h", api.Move{Kind: api.MoveAck, Conn: 5, Side: h}},
		{"reset 7 d 4", api.Move{Kind: api.MoveReset, Conn: 7, Side: d, N: 4}},
		{"cut 7 2", api.Move{Kind: api.MoveCut, Conn: 7, N: 2}},
	} {
		if m, e := script.Read(strings.Fields(v.line)); !sameMove(m, v.want) || e != api.OK {
			t.Errorf("P20.3: Read of %s: %+v, %d, not %+v", v.line, m, e, v.want)
		}
	}
}

// The eight first words, and others.
func TestReadFirstWord(t *testing.T) {
	saysRead(t)
	others := []string{
		"", " ", "Write", "WRITE", "SEND", "sends", "sen", "write ", " write", "write\n", "#", "jump", "hold", "net", "host", "device",
		"h", "x", "0", "garbled", "tock", "acknowledge", "resets", "cu", "cutt", "\x00", "wr\u0131te", "\xff", "1", "MoveSend",
	}
	rests := [][]string{nil, {"0"}, {"0", "h"}, {"0", "h", "0"}, {"0", "0"}, {"0", "h", "x"}, {"0", "h", "0", "0", "0"}, {"0", "h", "0", "0", "0", "0", "0"}}
	for _, first := range others {
		for _, rest := range rests {
			if m, e := script.Read(append([]string{first}, rest...)); !sameMove(m, api.Move{}) || e != api.ErrWord {
				t.Errorf("P20.3: Read of %q, %q: %+v, %d", first, rest, m, e)
			}
		}
	}
	for _, s := range specs {
		for _, rest := range rests {
			saysRead(t, append([]string{s.first}, rest...)...)
		}
	}
}

// good is a word that is what is wanted in a place.
func good(place string) string {
	return map[string]string{"Conn": "1", "Side": "d", "Data": "x0a", "Frame": "2", "At": "3", "Word": "4", "N": "5"}[place]
}

// line: the words of a kind, with a good one in each place.
func (s spec) line() []string {
	words := []string{s.first}
	for _, place := range s.places {
		words = append(words, good(place))
	}
	return words
}

// Too few, just enough, too many; good words and wrong ones: how many there are is told first.
func TestReadHowMany(t *testing.T) {
	for _, s := range specs {
		whole := s.line()
		for n := 1; n <= len(whole)+4; n++ {
			for _, more := range []string{"hold", "0", "wrong", ""} {
				words := slices.Clone(whole[:min(n, len(whole))])
				for len(words) < n {
					words = append(words, more)
				}
				saysRead(t, words...)
				want := api.OK
				switch {
				case n < len(whole):
					want = api.ErrFew
				case n == len(whole):
				case s.kind != api.MoveWrite || n > len(whole)+1:
					want = api.ErrMany
				case more != "hold":
					want = api.ErrValue
				}
				if _, e := script.Read(words); e != want {
					t.Errorf("P20.3: Read(%q): %d, not %d", words, e, want)
				}
				for i := range words[1:] {
					words[1+i] = "wrong"
				}
				saysRead(t, words...)
			}
		}
	}
}

// oddWords: some are what is wanted somewhere, most nowhere.
var oddWords = []string{
	"", " ", "0", "1", "9", "10", "00", "01", "05", "000", "007", "+0", "+1", "-0", "-1", "1 ", " 1", "1\n", "1.0", "1e3", "0x1", "0b1", "0o7", "1_000", "_1", "1,000",
	"4294967294", "4294967295", "4294967296", "4294967297", "04294967295", "4294967300", "9999999999", "10000000000", "8589934592", "42949672950",
	"18446744073709551615", "18446744073709551616", "18446744073709551617", "340282366920938463463374607431768211456", "9223372036854775808", "-9223372036854775808",
	strings.Repeat("0", 40), strings.Repeat("9", 300), strings.Repeat("1", 100000), "0" + strings.Repeat("0", 300) + "1",
	"\u0661", "\uff11", "\u00b2", "1\x00", "\x00", "\xff", "a", "f", "NaN", "Inf",
	"h", "d", "H", "D", "hd", "hh", "dh", "q", "host", "device", "h ", "\u04bb", "?",
	"x", "X", "x0", "x00", "xab", "xAB", "xaB", "xAb", "Xab", "xabc", "ab", "0xab", "xx", "xxx", "xg0", "x0g", "x 0", "x0 ", "x-1", "x+1", "x0x0", "x/0", "x:0", "x@0", "x`0", "xA0", "x0F", "x0\n", "xab ", " xab", "xabx", "x_0",
	"x0123456789abcdef", "x0123456789abcdef0", "x0123456789abcdef00", "x0123456789abcde", "x0123456789abcd", "x" + strings.Repeat("0", 32), "x" + strings.Repeat("a", 100000), "x" + strings.Repeat("f", 99999), "x\uff11", "x\xff\xff", "x\u00e4",
	"hold", "Hold", "HOLD", "hol", "holds", "hold ", " hold", "true", "#", "write", "send",
}

// At each place each odd word, alone and with another one beside it.
func TestReadValues(t *testing.T) {
	for _, s := range specs {
		whole := s.line()
		if s.kind == api.MoveWrite {
			whole = append(whole, "hold")
		}
		for n := len(s.places) + 1; n <= len(whole); n++ {
			for i := 1; i < n; i++ {
				for _, word := range oddWords {
					words := slices.Clone(whole[:n])
					words[i] = word
					saysRead(t, words...)
					for k := 1; k < n; k++ {
						words[k] = word
						saysRead(t, words...)
						words[k] = whole[k]
						words[i] = word
					}
				}
			}
		}
	}
}

// Said outright: a word that isn't what is wanted, and the zero move beside the error.
func TestReadWrongValues(t *testing.T) {
	for _, line := range []string{
		"send -1", "send +1", "send 00", "send 4294967296", "send x", "send 99999999999999999999",
		"cut 0 -1", "cut -1 0", "cut 0 h", "cut h 0", "ack h 0", "ack 0 H", "ack 0 0", "ack 0 hd",
		"tick 0 h -5", "tick 01 h 5", "reset 0 x 5", "reset 0 d 4294967296",
		"deliver 0 h 4294967296", "deliver 0 q 0", "deliver q h 0",
		"garble 0 h 0 0 4294967296", "garble 0 h 0 4294967296 0", "garble 0 h 4294967296 0 0", "garble 0 h 0 0 x",
		"write 0 h X", "write 0 h ab", "write 0 h x0", "write 0 h xabc", "write 0 h xAB", "write 0 h x000102030405060708",
		"write 0 h xab held", "write 0 h xab HOLD", "write 0 h hold xab", "write 0 x h", "write h 0 x",
	} {
		if m, e := script.Read(strings.Fields(line)); !sameMove(m, api.Move{}) || e != api.ErrValue {
			t.Errorf("P20.3: Read of %s: %+v, %d", line, m, e)
		}
	}
}

// Every two digits.
func TestReadBytes(t *testing.T) {
	for i := range 256 {
		for k := range 256 {
			word := "x" + string([]byte{byte(i), byte(k)})
			saysRead(t, "write", "0", "h", word)
			saysRead(t, "write", "0", "h", "x77"+word[1:]+"77", "hold")
		}
	}
}

// Every number of few digits, and some around each power of two and of ten.
func TestReadNumbers(t *testing.T) {
	digits := "0123456789"
	words := []string{""}
	for range 3 {
		for _, word := range words {
			for i := range digits {
				saysRead(t, "send", word+digits[i:i+1])
			}
		}
		var longer []string
		for _, word := range words {
			for i := range digits {
				longer = append(longer, word+digits[i:i+1])
			}
		}
		words = longer
	}
	c := &chance{at: 5}
	for range 3000 {
		word := ""
		for range 1 + c.below(22) {
			word += digits[c.below(10):][:1]
		}
		saysRead(t, "tick", word, "d", "1")
		saysRead(t, "garble", "0", "d", "1", "2", word)
		saysRead(t, "cut", "0", "42949"+word)
	}
}

// Any words out of those that matter.
func TestReadAnyWords(t *testing.T) {
	c := &chance{at: 6}
	firsts := []string{"write", "send", "deliver", "garble", "tick", "ack", "reset", "cut", "net", "host", "device", "hold", ""}
	some := []string{"0", "1", "4294967295", "4294967296", "01", "h", "d", "q", "x", "xab", "xAB", "x0", "hold", ""}
	for range 60000 {
		words := []string{one(c, firsts)}
		for range c.below(8) {
			words = append(words, one(c, some))
		}
		saysRead(t, words...)
		saysHead(t, api.Net{Hosts: []api.Param{seven}, MaxSession: 4}, words...)
	}
}
