package script_test

import (
	"runtime"
	"slices"
	"strings"
	"testing"

	"parapet/api"
)

func TestParse(t *testing.T) {
	send := api.Move{Kind: api.MoveSend}
	sets := []api.Param{seven}
	for _, v := range []struct {
		text string
		want parsed
	}{
		{"", parsed{}},
		{"\n", parsed{}},
		{"\n\n \n\t\r\n# net 1\n", parsed{}},
		{"net 9", parsed{net: api.Net{MaxSession: 9}}},
		{"net 9\n", parsed{net: api.Net{MaxSession: 9}}},
		{"net 9\nnet 8\n\nnet 7", parsed{net: api.Net{MaxSession: 7}}},
		{"net 9\nhost 7 2 1 10 100\nnet 0\n", parsed{net: api.Net{Hosts: sets}}},
		{"send 0", parsed{moves: []api.Move{send}}},
		{"send 0\n", parsed{moves: []api.Move{send}}},
		{"\nsend 0#\n\n  send 0\r\n#send 0", parsed{moves: []api.Move{send, send}}},
		{"device 7 2 1 10 100\nhost 7 2 1 10 100\nsend 0\n", parsed{net: api.Net{Hosts: sets, Devices: sets}, moves: []api.Move{send}}},
		// A set may be any, and there may be as many as one likes.
		{"host 0 0 0 0 0\n" + strings.Repeat("device 7 2 1 10 100\n", 3), parsed{net: api.Net{Hosts: []api.Param{{}}, Devices: []api.Param{seven, seven, seven}}}},
		// A net's line behind a move.
		{"send 0\nnet 3", parsed{at: 2, e: api.ErrWord}},
		{"send 0\nhost 7 2 1 10 100", parsed{at: 2, e: api.ErrWord}},
		{"net 1\nsend 0\n\n\ndevice 7 2 1 10 100\n", parsed{at: 5, e: api.ErrWord}},
		{"send 0\nnet", parsed{at: 2, e: api.ErrWord}},
		// The first line that is wrong.
		{"jump", parsed{at: 1, e: api.ErrWord}},
		{"net", parsed{at: 1, e: api.ErrFew}},
		{"net 1 2", parsed{at: 1, e: api.ErrMany}},
		{"net x", parsed{at: 1, e: api.ErrValue}},
		{"host 1 2 3 4", parsed{at: 1, e: api.ErrFew}},
		{"\n\nsend", parsed{at: 3, e: api.ErrFew}},
		{"\n\nsend\njump", parsed{at: 3, e: api.ErrFew}},
		{"net 1\nsend 0 0\nsend\n", parsed{at: 2, e: api.ErrMany}},
		{"net 1\nsend 0\nsend q\nsend 0\n", parsed{at: 3, e: api.ErrValue}},
		{"net q\njump", parsed{at: 1, e: api.ErrValue}},
		{"# 1\n# 2\n# 3\nhop\n# 5", parsed{at: 4, e: api.ErrWord}},
		{"send 0\x00", parsed{at: 1, e: api.ErrValue}},
		{"send 0\v", parsed{at: 1, e: api.ErrValue}},
		{"send 0\vsend 0", parsed{at: 1, e: api.ErrMany}},
		// No byte but 0a ends a line.
		{"send 0\rsend 0", parsed{at: 1, e: api.ErrMany}},
		{"net 1\u2028send 0", parsed{at: 1, e: api.ErrMany}},
		{"SEND 0", parsed{at: 1, e: api.ErrWord}},
	} {
		if got := parse(v.text); !got.same(v.want) {
			t.Errorf("P20.4: Parse(%q): %+v, not %+v", v.text, got, v.want)
		}
		saysParse(t, v.text)
	}
}

// padded is a line with so many bytes: blanks ahead of it, and a remark behind it.
func padded(line string, ahead, size int) string {
	line = strings.Repeat(" ", ahead) + line
	if len(line) < size {
		line += "#" + strings.Repeat("r", size-len(line)-1)
	}
	return line
}

// Lines of 1024 bytes and of one more, remarks and blanks counted, their ends not.
func TestParseLongLines(t *testing.T) {
	for _, line := range []string{"", "send 0", "net 4", "jump", "net", "host 7 2 1 10 100", "send 0 0"} {
		for _, size := range []int{1023, 1024, 1025, 1026, 2048, 5000} {
			for _, ahead := range []int{0, 5, 1000, 1024 - len(line), 1025 - len(line)} {
				long := padded(line, ahead, size)
				for _, text := range []string{long, long + "\n", "\n" + long, "send 0\n" + long, "net 1\n" + long + "\nsend 0\n", long + "\njump", "jump\n" + long, long + "\n" + long} {
					saysParse(t, text)
				}
			}
		}
	}
	for _, v := range []struct {
		text string
		want parsed
	}{
		{padded("", 0, 1024), parsed{}},
		{padded("", 0, 1025), parsed{at: 1, e: api.ErrLines}},
		{strings.Repeat(" ", 1024) + "\n", parsed{}},
		{strings.Repeat(" ", 1025) + "\n", parsed{at: 1, e: api.ErrLines}},
		{"net 7\n" + padded("jump", 0, 1025), parsed{at: 2, e: api.ErrLines}},
		{"net 7\n" + padded("jump", 0, 1024), parsed{at: 2, e: api.ErrWord}},
		{"jump\n" + padded("", 0, 1025), parsed{at: 1, e: api.ErrWord}},
		{padded("net 7", 0, 1024) + "\n" + padded("send 0", 1018, 1024) + "\n", parsed{net: api.Net{MaxSession: 7}, moves: []api.Move{{Kind: api.MoveSend}}}},
		{"send " + strings.Repeat("1", 1019), parsed{at: 1, e: api.ErrValue}},
		{"send " + strings.Repeat("1", 1020), parsed{at: 1, e: api.ErrLines}},
	} {
		if got := parse(v.text); !got.same(v.want) {
			t.Errorf("P20.4: Parse(%s): %+v, not %+v", short(v.text), got, v.want)
		}
	}
}

// A text of just MaxText bytes, and of one more, whatever it says.
func TestParseLimit(t *testing.T) {
	for _, line := range []string{"send 0\n", "#234567\n", "\n", "  \n", "jump\n"} {
		for _, size := range []int{1<<18 - 1, 1 << 18, 1<<18 + 1, 1<<18 + len(line), 1 << 20} {
			text := strings.Repeat(line, size/len(line))
			saysParse(t, text)
			text += strings.Repeat(" ", size-len(text))
			saysParse(t, text)
			if e := parse(text).e; size > 1<<18 && e != api.ErrLines || size <= 1<<18 && e == api.ErrLines {
				t.Errorf("P20.4: of %d bytes: %d", size, e)
			}
		}
	}
	full := strings.Repeat("#23456789abcdef\n", 1<<14)
	if got := parse(full); !got.same(parsed{}) {
		t.Errorf("P20.4: of MaxText bytes: %s", short(got))
	}
	if got := parse(full + "\n"); !got.same(parsed{e: api.ErrLines}) {
		t.Errorf("P20.4: of one byte more: %s", short(got))
	}
	if got := parse("jump\n" + full); !got.same(parsed{e: api.ErrLines}) {
		t.Errorf("P20.4: of more, with a wrong line: %s", short(got))
	}
	if got := parse(full[:1<<18-16] + "jump"); !got.same(parsed{at: 1 << 14, e: api.ErrWord}) {
		t.Errorf("P20.4: the last line is wrong: %s", short(got))
	}
	if got := parse(strings.Repeat("\n", 1<<18-1) + "x"); !got.same(parsed{at: 1 << 18, e: api.ErrWord}) {
		t.Errorf("P20.4: behind many ends: %s", short(got))
	}
}

// A text that is full of sets: they aren't copied anew for each line.
func TestParseManySets(t *testing.T) {
	text := strings.Repeat("host 1 2 3 4 5\n", 1<<18/15)
	var ahead, behind runtime.MemStats
	runtime.ReadMemStats(&ahead)
	got := parse(text)
	runtime.ReadMemStats(&behind)
	set := api.Param{Code: 1, Out: 2, In: 3, Watch: 4, Count: 5}
	if !got.same(parsed{net: api.Net{Hosts: slices.Repeat([]api.Param{set}, 1<<18/15)}}) {
		t.Errorf("P20.4: of a text full of sets: %s", short(got))
	}
	if room := behind.TotalAlloc - ahead.TotalAlloc; room > 1<<28 {
		t.Errorf("P1: a text full of sets takes %d bytes of memory", room)
	}
}

// anyLine: right ones most often, at times with blanks and remarks, and at times wrong.
func (c *chance) anyLine(wrong int) string {
	some := []string{
		"", "#", " # net 1", "\t", "net 5", "net 0", "host 7 2 1 10 100", "device 9 1 8 3 4294967295", "host 0 0 0 0 0",
		"send 0", "send 4294967295", "write 0 h x", "write 1 d xab00 hold", "deliver 0 h 3", "garble 0 d 3 9 4294967295", "tick 0 h 5", "ack 0 d", "reset 0 d 2", "cut 0 7",
	}
	line := one(c, some)
	switch c.below(8) {
	case 0:
		line = strings.ReplaceAll(line, " ", one(c, []string{"  ", "\t", " \r ", "\t\t"}))
	case 1:
		line = one(c, []string{" ", "\t ", "\r"}) + line + one(c, []string{" ", "\r", "#", " # send 9", "#\t\xff"})
	}
	if c.below(100) < wrong {
		at := c.below(len(line) + 1)
		line = line[:at] + one(c, []string{" ", "0", "q", "-", "x", "#", "\x00", " hold", "\xc3"}) + line[at:]
	}
	return line
}

// Many texts, right ones and wrong ones.
func TestParseAnyTexts(t *testing.T) {
	c := &chance{at: 8}
	right := 0
	for i := range 20000 {
		wrong := []int{0, 10, 40}[i%3]
		text := ""
		for range c.below(10) {
			text += c.anyLine(wrong) + "\n"
		}
		if c.below(2) == 0 {
			text += c.anyLine(wrong)
		}
		saysParse(t, text)
		if parse(text).e == api.OK {
			right++
		}
	}
	if right < 4000 || right > 16000 {
		t.Errorf("of 20000 texts %d are right: too few or too many to tell much", right)
	}
}

// Every text of five bytes at most out of a few that matter.
func TestParseShortTexts(t *testing.T) {
	texts := []string{""}
	for len(texts[0]) <= 5 {
		var longer []string
		for _, text := range texts {
			saysParse(t, text)
			saysParse(t, "net 1"+text)
			saysParse(t, "send 0"+text)
			for _, b := range []string{" ", "\n", "#", "0", "\r", "h"} {
				longer = append(longer, text+b)
			}
		}
		texts = longer
	}
}
