package shell_test

import (
	"fmt"
	"strings"
	"testing"

	"parapet/api"
	"parapet/shell"
)

// asked are the commands, and how many arguments each has.
var asked = []struct {
	word      string
	arguments int
}{{"begin", 0}, {"see", 1}, {"judge", 0}, {"facts", 0}, {"frame", 1}, {"memory", 1}, {"settle", 2}, {"counts", 0}}

// right are lines that only a world takes: commands but begin, and moves, all of which the talk's world plays.
var right = []string{
	"see 0", "judge", "facts", "frame 0", "memory 0", "settle 0 7", "counts",
	"write 0 h xaabb", "write 0 d x hold", "send 0", "deliver 0 d 6", "garble 0 h 7 3 1", "tick 0 d 1", "ack 0 h", "reset 0 h 0", "reset 0 d 4294967295", "cut 0 4294967295",
	"see 4294967295", "frame 4294967295", "memory 1", "settle 1 0", "send 8", "tick 0 h 4294967295", "deliver 9 h 9",
}

// notNumbers are words in the place of a number.
var notNumbers = []string{"x", "h", "00", "01", "0x1", "1x", "-1", "-0", "+1", "+0", "1.0", "1e3", "1_0", "4294967296", "4294967297", "8589934592", "18446744073709551616", "04294967295", "99999999999999999999999999", "\u0661", "\x00", "-", "+", "0\n"}

// wrong are lines that answer the same error, whether something has begun or not.
func wrong() map[string]api.Errno {
	lines := map[string]api.Errno{
		strings.Repeat(" ", api.MaxLine+1):         api.ErrLines,
		"net 3" + strings.Repeat(" ", api.MaxLine): api.ErrLines,
		"begin" + strings.Repeat(" ", api.MaxLine): api.ErrLines,
		"send" + strings.Repeat(" ", api.MaxLine):  api.ErrLines,
		"hop" + strings.Repeat("#", api.MaxLine):   api.ErrLines,
		"net":                                      api.ErrFew,
		"net 3 3":                                  api.ErrMany,
		"net x 3":                                  api.ErrMany,
		"host":                                     api.ErrFew,
		"host x":                                   api.ErrFew,
		"host 8 2 1 10":                            api.ErrFew,
		"host 8 2 1 10 100 0":                      api.ErrMany,
		"host 8 2 1 10 x 0":                        api.ErrMany,
		"device":                                   api.ErrFew,
		"device 8 2 1 x":                           api.ErrFew,
		"device 8 2 1 10 100 0":                    api.ErrMany,
		"hop":                                      api.ErrWord,
		"hop 0":                                    api.ErrWord,
		"x":                                        api.ErrWord,
		"send":                                     api.ErrFew,
		"send 0 0":                                 api.ErrMany,
		"send x 0":                                 api.ErrMany,
		"tick 0 h":                                 api.ErrFew,
		"tick 0 q":                                 api.ErrFew,
		"tick 0 h 1 1":                             api.ErrMany,
		"tick 0 q 1":                               api.ErrValue,
		"ack 0":                                    api.ErrFew,
		"ack 0 x":                                  api.ErrValue,
		"write 0 h":                                api.ErrFew,
		"write 0 h xaabb hold on":                  api.ErrMany,
		"write 0 h xaabb hol":                      api.ErrValue,
		"write 0 h xAABB":                          api.ErrValue,
		"write 0 h xaab":                           api.ErrValue,
		"write 0 h x000000000000000000":            api.ErrValue,
		"deliver 0 d":                              api.ErrFew,
		"deliver 0 d 0 0":                          api.ErrMany,
		"garble 0 d 0 0":                           api.ErrFew,
		"garble 0 d 0 0 1 1":                       api.ErrMany,
		"reset 0 d":                                api.ErrFew,
		"reset 0 d 0 0":                            api.ErrMany,
		"cut 0":                                    api.ErrFew,
		"cut 0 0 0":                                api.ErrMany,
	}
	for _, word := range notNumbers {
		for _, form := range []string{"net %s", "host %s 2 1 10 100", "host 8 %s 1 10 100", "host 8 2 1 10 %s", "device 8 2 %s 10 100", "device 8 2 1 %s 100", "device 8 2 1 10 %s", "send %s", "tick 0 h %s", "deliver 0 h %s", "garble 0 d 0 0 %s", "cut %s 0"} {
			lines[fmt.Sprintf(form, word)] = api.ErrValue
		}
	}
	for _, c := range asked {
		for n := range 6 {
			want := api.ErrMany
			if n < c.arguments {
				want = api.ErrFew
			}
			// Their number is told ahead of their values.
			for _, word := range []string{"0", "x", "4294967296", "01"} {
				if n != c.arguments {
					lines[c.word+strings.Repeat(" "+word, n)] = want
				}
			}
		}
		for _, word := range notNumbers {
			for place := range c.arguments {
				words := []string{c.word, "0", "0"}[:1+c.arguments]
				words[1+place] = word
				lines[strings.Join(words, " ")] = api.ErrValue
			}
		}
	}
	return lines
}

// stages are texts, behind which what is wrong is tried.
var stages = map[string]string{
	"nothing":                 "",
	"a make-up":               "net 2\nhost 7 2 1 10 100\ndevice 7 2 1 10 100\n",
	"half a make-up":          "net 2\nhost 7 2 1 10 100\n",
	"a beginning":             "net 2\nhost 7 2 1 10 100\ndevice 7 2 1 10 100\nbegin\n",
	"two connections":         "net 2\nhost 7 2 1 10 100\ndevice 7 2 1 10 100\nhost 8 1 1 3 9\ndevice 8 1 1 3 9\nbegin\nsettle 1 7\nsend 0\n",
	"a talk":                  talked,
	"a make-up behind a talk": talked + "net 2\nhost 8 1 1 3 9\ndevice 8 1 1 3 9\n",
	"no make-up behind one":   talked + "net 0\nhost 8 1 1 3 9\n",
}

// P23.1, R2: a line that is wrong by itself answers its error, whether something has begun or not; and has changed nothing, neither the make-up nor the world.
func TestWrongLines(t *testing.T) {
	lines := wrong()
	for name, text := range stages {
		want := tried(behind(text))
		s := behind(text)
		for line, e := range lines {
			refuses(t, s, line, e)
		}
		if got := tried(s); got != want {
			t.Fatalf("R4: behind %s wrong lines change %.400q to %.400q", name, want, got)
		}
	}
}

// Each by itself, so that no two undo each other.
func TestWrongLinesOneByOne(t *testing.T) {
	text := "net 2\nhost 7 2 1 10 100\ndevice 7 2 1 10 100\nbegin\nsettle 0 7\n"
	want := tried(behind(text))
	for line, e := range wrong() {
		s := behind(text)
		refuses(t, s, line, e)
		if got := tried(s); got != want {
			t.Fatalf("R4: Line(%q) changes %.400q to %.400q", line, want, got)
		}
	}
}

// A right line is refused while nothing has begun, whatever the make-up is.
func TestNothingHasBegun(t *testing.T) {
	for _, text := range []string{"", "net 9\n", "net 2\nhost 7 2 1 10 100\ndevice 7 2 1 10 100\n", "begin\n", madeUp + "host 7 2 1 10 100\nbegin\n"} {
		want := tried(behind(text))
		s := behind(text)
		for _, line := range right {
			refuses(t, s, line, api.ErrEmpty)
		}
		if got := tried(s); got != want {
			t.Fatalf("R4: lines ahead of a beginning change %.400q to %.400q", want, got)
		}
	}
}

// And it isn't refused so behind a beginning, nor behind one that was refused.
func TestSomethingHasBegun(t *testing.T) {
	for _, text := range []string{begun, talked, talked + "net 0\nbegin\n"} {
		for _, line := range right {
			if got := behind(text).Line(line); got == refused(api.ErrEmpty) {
				t.Errorf("P23.1: Line(%q) behind %q: %q", line, text, got)
			}
		}
	}
}

// Numbers may be any of 32 bits, in a net's line too.
func TestGreatNumbers(t *testing.T) {
	s := shell.New()
	for _, n := range []string{"0", "9", "10", "2147483647", "2147483648", "4294967295"} {
		says(t, s, "net "+n, "ok\n")
		says(t, s, "host "+strings.Repeat(" "+n, 5), "ok\n")
		says(t, s, "device "+strings.Repeat(" "+n, 5), "ok\n")
		refuses(t, s, "see "+n, api.ErrEmpty)
		refuses(t, s, "settle "+n+" "+n, api.ErrEmpty)
		refuses(t, s, "send "+n, api.ErrEmpty)
	}
}
