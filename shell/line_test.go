package shell_test

import (
	"strings"
	"testing"

	"parapet/api"
	"parapet/script"
	"parapet/shell"
)

// The chapter's examples.
func TestExamples(t *testing.T) {
	comesTo(t, "net 9\nhost 7 2 1 10 100\ndevice 7 2 1 10 100\nbegin\nsettle 0 7\nsee 0\njudge\ncounts\n",
		"ok\nok\nok\nok\nup 3\nh:running,1,0,0,0,0,off d:running,1,0,0,0,0,off\ngood\nmoves 9 frames 6\n")
	comesTo(t, "see 0", "error 205\n")
	comesTo(t, "see x", "error 203\n")
	comesTo(t, "begin", "error 2\n")
	comesTo(t, "hop", "error 200\n")
	comesTo(t, "send 0", "error 205\n")
	comesTo(t, "send", "error 202\n")
}

// A line without words answers nothing, wherever it stands.
func TestLinesWithoutWords(t *testing.T) {
	for _, text := range []string{"", madeUp, begun, talked} {
		s := behind(text)
		were := seen(s)
		for _, line := range []string{"", " ", "\t", "\r", " \t\r \r", "#", "# see 0", "  #begin", "#\n", "# x\nsee 0", "\t# \x00\xff"} {
			says(t, s, line, "")
		}
		if now := seen(s); now != were {
			t.Fatalf("P23.1: lines without words change %.300q to %.300q", were, now)
		}
	}
}

// A line's words are cut as those of a script are.
func TestWordsOfALine(t *testing.T) {
	s := shell.New()
	for line, want := range map[string]string{
		"net 9":                         "ok\n",
		"\t net\r\t9 \r":                "ok\n",
		"host 7 2\t1   10 100#9":        "ok\n",
		"device 7 2 1 10 100 # and now": "ok\n",
		"net 9#":                        "ok\n",
		"net#9":                         refused(api.ErrFew),
		"net 9 9":                       refused(api.ErrMany),
		"net 9 9#9":                     refused(api.ErrMany),
		"Net 9":                         refused(api.ErrWord),
		"NET 9":                         refused(api.ErrWord),
		"nets 9":                        refused(api.ErrWord),
		"net9":                          refused(api.ErrWord),
		"\v":                            refused(api.ErrWord),
		"\f":                            refused(api.ErrWord),
		"\x00":                          refused(api.ErrWord),
		"\u00a0":                        refused(api.ErrWord),
		"\xff\xfe":                      refused(api.ErrWord),
		"net\u00a09":                    refused(api.ErrWord),
		"net\v9":                        refused(api.ErrWord),
		"begin\x00":                     refused(api.ErrWord),
		"Begin":                         refused(api.ErrWord),
		"beg":                           refused(api.ErrWord),
		"see0":                          refused(api.ErrWord),
		"9":                             refused(api.ErrWord),
		"ok":                            refused(api.ErrWord),
		"good":                          refused(api.ErrWord),
		"error":                         refused(api.ErrWord),
		"hold":                          refused(api.ErrWord),
		"h":                             refused(api.ErrWord),
		"hop 1 2 3 4 5 6 7 8 9":         refused(api.ErrWord),
		"see 0 # x y":                   refused(api.ErrEmpty),
	} {
		says(t, s, line, want)
	}
}

// A byte 0a inside a line is a byte of a word.
func TestLineEndsInsideALine(t *testing.T) {
	for line, want := range map[string]string{
		"\n":                   refused(api.ErrWord),
		" \n ":                 refused(api.ErrWord),
		"judge\n":              refused(api.ErrWord),
		"\njudge":              refused(api.ErrWord),
		"see\n0":               refused(api.ErrWord),
		"see 0\n":              refused(api.ErrValue),
		"see \n0":              refused(api.ErrValue),
		"see 0 \n":             refused(api.ErrMany),
		"see \n":               refused(api.ErrValue),
		"net 9\nnet 9":         refused(api.ErrMany),
		"net 9\n":              refused(api.ErrValue),
		"net\n 9":              refused(api.ErrWord),
		"send 0\nsend 0":       refused(api.ErrMany),
		"send 0\n":             refused(api.ErrValue),
		"send\n0":              refused(api.ErrWord),
		"ack 0 h\n":            refused(api.ErrValue),
		"judge # \n":           "good\n",
		"judge #\nhop":         "good\n",
		"counts#\n# see 0 \n ": "moves 14 frames 8\n",
	} {
		says(t, behind(talked), line, want)
	}
}

// long: a line of so many bytes, filled up behind its beginning.
func long(beginning, fill string, size int) string {
	return beginning + strings.Repeat(fill, size-len(beginning))
}

// 1024 bytes are a line, whatever they are, and 1025 are too long, ahead of all else.
func TestLongLines(t *testing.T) {
	for _, v := range []struct{ beginning, fill, want string }{
		{"", " ", ""},
		{"", "\t", ""},
		{"", "\r", ""},
		{"#", "x", ""},
		{" # see 0", "#", ""},
		{"see 0", " ", "h:running,1,1,1,0,0,on:cc d:running,1,1,1,0,0,on:aabb\n"},
		{"judge", "\t", "good\n"},
		{"counts #", "x", "moves 14 frames 8\n"},
		{"net 9", " ", "ok\n"},
		{"begin", "\r", "ok\n"},
		{"", "x", refused(api.ErrWord)},
		{"", "\n", refused(api.ErrWord)},
		{"", "\xff", refused(api.ErrWord)},
		{"see ", "0", refused(api.ErrValue)},
		{"see ", "9", refused(api.ErrValue)},
		{"see", " ", refused(api.ErrFew)},
		{"see 0 ", "9", refused(api.ErrMany)},
		{"net", " ", refused(api.ErrFew)},
		{"net ", "9", refused(api.ErrValue)},
		{"net 0 ", "9", refused(api.ErrMany)},
		{"host 1 ", "2", refused(api.ErrFew)},
		{"begin ", "x", refused(api.ErrMany)},
		{"send 1", " ", refused(api.ErrConn)},
		{"send", " ", refused(api.ErrFew)},
		{"send ", "7", refused(api.ErrValue)},
		{"tick 0 h ", "0", refused(api.ErrValue)},
	} {
		says(t, behind(talked), long(v.beginning, v.fill, api.MaxLine), v.want)
		for _, more := range []int{1, 2, 1000, 1 << 16} {
			line := long(v.beginning, v.fill, api.MaxLine+more)
			refuses(t, behind(talked), line, api.ErrLines)
			refuses(t, shell.New(), line, api.ErrLines)
		}
	}
}

// In a text each line is measured for itself, without its end.
func TestLongLinesInAText(t *testing.T) {
	whole, over := long("judge", " ", api.MaxLine), long("judge", " ", api.MaxLine+1)
	text := strings.Join([]string{whole, over, whole, "judge", over, over, whole}, "\n")
	if got, want := behind(talked).Run(text), "good\nerror 204\ngood\ngood\nerror 204\nerror 204\ngood\n"; got != want {
		t.Errorf("P23.1: %q, not %q", got, want)
	}
}

// Whatever a line is, it is answered by whole lines, and nothing panics.
func TestAnyBytes(t *testing.T) {
	c := &chance{at: 1}
	s := behind(talked)
	for range 20000 {
		line := make([]byte, c.below(40))
		for i := range line {
			line[i] = byte(c.next())
			if c.below(2) == 0 {
				line[i] = " 0123\tnetsendjudgehx#\n"[c.below(22)]
			}
		}
		got := s.Line(string(line))
		if says := len(script.Words(string(line))) > 0; says != strings.HasSuffix(got, "\n") || !says && got != "" {
			t.Fatalf("P23.1: Line(%q): %q", line, got)
		}
	}
}
