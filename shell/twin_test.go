package shell_test

import (
	"fmt"
	"regexp"
	"slices"
	"strconv"
	"strings"
	"testing"

	"parapet/api"
	"parapet/fair"
	"parapet/ghost"
	"parapet/script"
	"parapet/shell"
	"parapet/trace"
	"parapet/world"
)

// twin is the chapter in other words: a line is read by its form, and answered by the layers below.
type twin struct {
	net api.Net
	w   *world.World
}

var numberForm = regexp.MustCompile(`\A(?:0|[1-9][0-9]{0,9})\z`)

// wantNumber: the words on a number of chapter 20.
func wantNumber(word string) (int, bool) {
	n, err := strconv.Atoi(word)
	return n, numberForm.MatchString(word) && err == nil && n < 1<<32
}

// line: what the shell answers.
func (x *twin) line(line string) string {
	words := script.Words(line)
	if len(line) > 1024 {
		return "error 204\n"
	}
	if len(words) == 0 {
		return ""
	}
	lines, e := x.words(words)
	if e != api.OK {
		return fmt.Sprintf("error %d\n", e)
	}
	text := ""
	for _, line := range lines {
		text += line + "\n"
	}
	return text
}

func (x *twin) words(words []string) ([]string, api.Errno) {
	if slices.Contains([]string{"net", "host", "device"}, words[0]) {
		n, _, e := script.Head(x.net, words)
		if e == api.OK {
			x.net = n
		}
		return []string{"ok"}, e
	}
	wanted, known := map[string]int{"begin": 0, "see": 1, "judge": 0, "facts": 0, "frame": 1, "memory": 1, "settle": 2, "counts": 0}[words[0]]
	if !known {
		return x.move(words)
	}
	switch {
	case len(words)-1 < wanted:
		return nil, api.ErrFew
	case len(words)-1 > wanted:
		return nil, api.ErrMany
	}
	numbers := []int{0, 0}
	for i, word := range words[1:] {
		n, ok := wantNumber(word)
		if !ok {
			return nil, api.ErrValue
		}
		numbers[i] = n
	}
	if x.w == nil && words[0] != "begin" {
		return nil, api.ErrEmpty
	}
	return x.command(words[0], numbers[0], numbers[1])
}

func (x *twin) move(words []string) ([]string, api.Errno) {
	m, e := script.Read(words)
	if e == api.OK && x.w == nil {
		e = api.ErrEmpty
	}
	if e != api.OK {
		return nil, e
	}
	row, e := x.w.Play(m)
	if e != api.OK {
		return nil, e
	}
	line, e := trace.Line(row)
	return []string{line}, e
}

func (x *twin) command(word string, k, n int) ([]string, api.Errno) {
	switch word {
	case "begin":
		w, e := world.New(x.net)
		if e == api.OK {
			x.w = w
		}
		return []string{"ok"}, e
	case "see":
		h, e := x.w.See(k, api.AtHost)
		d, _ := x.w.See(k, api.AtDevice)
		return []string{fmt.Sprintf("h:%s d:%s", trace.End(h), trace.End(d))}, e
	case "judge":
		if v := ghost.Check(x.w.Net(), x.w.Facts()); v != (api.Verdict{}) {
			return []string{fmt.Sprintf("bad %d %d", v.Rule, v.At)}, api.OK
		}
		return []string{"good"}, api.OK
	case "facts":
		var lines []string
		for _, f := range x.w.Facts() {
			lines = append(lines, trace.Fact(f))
		}
		return lines, api.OK
	case "frame":
		b, e := x.w.Frame(k)
		return []string{fmt.Sprintf("frame x%x", b)}, e
	case "memory":
		b, e := x.w.Memory(k)
		return []string{fmt.Sprintf("memory x%x", b)}, e
	case "settle":
		exchanges, isUp, e := fair.Settle(x.w, k, n)
		return []string{fmt.Sprint(map[bool]string{true: "up ", false: "not "}[isUp], exchanges)}, e
	}
	return []string{fmt.Sprintf("moves %d frames %d", x.w.Moves(), x.w.Frames())}, api.OK
}

// number is a word: mostly a number that there is, sometimes one that isn't there, sometimes none.
func (c *chance) number(below int) string {
	switch c.below(40) {
	case 0:
		return c.one(notNumbers...)
	case 1:
		return c.one("4294967295", "2147483648", "1048576", "1048577", "4096")
	case 2:
		return fmt.Sprint(below)
	}
	return fmt.Sprint(c.below(below))
}

func (c *chance) side() string {
	if c.below(60) == 0 {
		return c.one("x", "hd", "H", "0")
	}
	return c.one("h", "d")
}

// netsLine is one of a make-up of two connections, which now and then becomes no net.
func (c *chance) netsLine() string {
	set := c.one("7 2 1 10 100", "8 1 1 3 5", "9 3 2 5 20")
	switch c.below(30) {
	case 0:
		set = c.one("0 1 1 1 2", "7 9 1 1 2", "7 2 1 10", "7 2 1 10 100 1", "7 2 1 10 x")
	case 1, 2, 3, 4, 5:
		return "net " + c.number(4)
	}
	return c.one("host ", "device ") + set
}

// moveLine is a move of a world with so many frames.
func (c *chance) moveLine(conns, frames int) string {
	k, s, last := c.number(conns), c.side(), c.number(frames+1)
	if frames > 0 && c.below(2) == 0 {
		last = fmt.Sprint(frames - 1)
	}
	switch c.below(12) {
	case 0:
		return fmt.Sprintf("write %s %s x%s%s", k, s, c.one("", "00", "aabb", "01", "0102", "010203", "0"), c.one("", "", " hold", " holds"))
	case 1, 2, 3:
		return "send " + k
	case 4, 5, 6, 7:
		return fmt.Sprintf("deliver %s %s %s", k, s, last)
	case 8:
		return fmt.Sprintf("garble %s %s %s %s %s", k, s, last, c.number(200), c.number(9))
	case 9:
		return fmt.Sprintf("tick %s %s %s", k, s, c.number(6))
	case 10:
		return fmt.Sprintf("ack %s %s", k, s)
	}
	return c.one(fmt.Sprintf("reset %s %s %s", k, s, c.one("0", "0", "0", "3")), fmt.Sprintf("cut %s %s", k, c.number(14)))
}

// looks is a command, and rarely one that begins anew.
func (c *chance) looks(conns, frames int) string {
	switch c.below(10) {
	case 0:
		return "judge"
	case 1:
		return "facts"
	case 2:
		return "counts"
	case 3:
		return "frame " + c.number(frames+1)
	case 4:
		return "memory " + c.number(conns)
	case 5, 6:
		return fmt.Sprintf("settle %s %s", c.number(conns), c.one("0", "1", "7", "7", "20", "x", "07"))
	}
	return "see " + c.number(conns)
}

// spoilt: a line, sometimes with a word too many, one too few, blanks, or a remark.
func (c *chance) spoilt(line string) string {
	words := strings.Fields(line)
	switch c.below(40) {
	case 0:
		words = append(words, c.one("0", "x", "hold"))
	case 1:
		words = words[:c.below(len(words)+1)]
	case 2:
		words[c.below(len(words))] = c.one("hop", "x", "", "see", "#", "h", "begin")
	case 3:
		return line + strings.Repeat(" ", 1020-len(line)+c.below(10))
	case 4:
		return "\t" + strings.Join(words, c.one("  ", "\t", " \r")) + c.one("", " # remark", "#", "\r", "\n")
	}
	return strings.Join(words, " ")
}

// lineFor is a line for a shell that stands as the twin does.
func (c *chance) lineFor(x *twin) string {
	conns, frames := 2, x.w.Frames()
	line := ""
	switch n := c.below(100); {
	case x.w == nil && n < 60 && len(x.net.Hosts) < 3:
		line = c.netsLine()
	case x.w == nil && n < 70, n == 99:
		line = "begin"
	case n == 98:
		line = c.netsLine()
	case n < 70:
		line = c.moveLine(conns, frames)
	default:
		line = c.looks(conns, frames)
	}
	return c.spoilt(line)
}

// P23.1: any lines, in any order, answer as the chapter says.
func TestAnyLines(t *testing.T) {
	c := &chance{at: 7}
	kinds := map[string]int{}
	for range 400 {
		x, s := &twin{}, shell.New()
		if c.below(2) == 0 {
			text := "net 3\nhost 7 2 1 10 100\ndevice 7 2 1 10 100\nhost 8 1 1 3 5\ndevice 8 1 1 3 5\nbegin\nsettle 0 7\nsettle 1 7"
			for _, line := range strings.Split(text, "\n") {
				says(t, s, line, x.line(line))
			}
		}
		for range 150 {
			line := c.lineFor(x)
			want := x.line(line)
			says(t, s, line, want)
			first, _, _ := strings.Cut(want, "\n")
			if !strings.HasPrefix(first, "error") {
				first, _, _ = strings.Cut(first, " ")
			}
			kinds[first]++
		}
		if got, want := seen(s), seenBy(x.line); got != want {
			t.Fatalf("P23.1: behind all: %.300q, not %.300q", got, want)
		}
	}
	for _, kind := range []string{"ok", "good", "up", "not", "moves", "frame", "memory", "write", "send", "deliver", "garble", "tick", "ack", "reset", "cut", "out", "", "error 2", "error 30", "error 90", "error 151", "error 160", "error 171", "error 200", "error 201", "error 202", "error 203", "error 204", "error 205"} {
		if kinds[kind] < 10 {
			t.Errorf("too little was tried: %q %d times", kind, kinds[kind])
		}
	}
}

// An error in the midst changes nothing: the same lines without those that answered one answer the same. (A settle's error aside: here none is full.)
func TestLinesWithoutErrors(t *testing.T) {
	c := &chance{at: 8}
	for range 200 {
		x, s, calm := &twin{}, shell.New(), shell.New()
		refusals := 0
		for range 120 {
			line := c.lineFor(x)
			x.line(line)
			answer := s.Line(line)
			if strings.HasPrefix(answer, "error ") {
				refusals++
				continue
			}
			says(t, calm, line, answer)
		}
		if got, want := tried(s), tried(calm); got != want {
			t.Fatalf("R4: %d errors change %.300q to %.300q", refusals, want, got)
		}
	}
}
