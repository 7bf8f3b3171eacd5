package shell_test

import (
	"fmt"
	"strings"
	"testing"

	"parapet/api"
	"parapet/shell"
)

const (
	// madeUp is the make-up of the chapter's example: one connection, and nine sessions.
	madeUp = "net 9\nhost 7 2 1 10 100\ndevice 7 2 1 10 100\n"
	begun  = madeUp + "begin\n"
	// up: both ends are Running in session 1, behind 9 moves and 6 frames.
	up = begun + "settle 0 7\n"
	// talked: both values have come to the other end, behind 14 moves and 8 frames.
	talked = up + "write 0 h xaabb\nwrite 0 d xcc\nsend 0\ndeliver 0 d 6\ndeliver 0 h 7\n"
)

// refused is the answer with an error.
func refused(e api.Errno) string { return fmt.Sprintf("error %d\n", e) }

// behind is a shell behind a text.
func behind(text string) *shell.Shell {
	s := shell.New()
	s.Run(text)
	return s
}

// says: a line, and what it answers.
func says(t *testing.T, s *shell.Shell, line, want string) {
	t.Helper()
	if got := s.Line(line); got != want {
		t.Fatalf("P23.1: Line(%.60q): %.300q, not %.300q", line, got, want)
	}
}

// refuses: a line, and the error that it answers.
func refuses(t *testing.T, s *shell.Shell, line string, want api.Errno) {
	t.Helper()
	says(t, s, line, refused(want))
}

// comesTo: a text, and what a new shell answers of it.
func comesTo(t *testing.T, text, want string) {
	t.Helper()
	if got := shell.Run(text); got != want {
		t.Fatalf("P23.1: Run(%.300q): %.300q, not %.300q", text, got, want)
	}
}

// follows goes through a talk with the shell: behind a > stands a line, and behind that what it answers.
func follows(t *testing.T, s *shell.Shell, talk string) {
	t.Helper()
	for _, part := range strings.Split("\n"+talk, "\n> ")[1:] {
		line, answer, _ := strings.Cut(strings.TrimSuffix(part, "\n"), "\n")
		if answer != "" {
			answer += "\n"
		}
		says(t, s, line, answer)
	}
}

// seen is all that is to be seen of what is played.
func seen(s *shell.Shell) string { return seenBy(s.Line) }

// seenBy asks by the commands that change nothing.
func seenBy(line func(string) string) string {
	counts := line("counts")
	text := counts + line("judge") + line("facts")
	for k := range api.MaxConns + 1 {
		text += line(fmt.Sprint("see ", k)) + line(fmt.Sprint("memory ", k))
	}
	var moves, frames int
	fmt.Sscanf(counts, "moves %d frames %d", &moves, &frames)
	for i := range frames + 1 {
		text += line(fmt.Sprint("frame ", i))
	}
	return text
}

// tried is all that is to be seen of a shell, of its make-up too: that is begun, and used up to its last session if it has few.
func tried(s *shell.Shell) string {
	text := seen(s) + s.Run("send 0\ndeliver 0 d 0\ntick 0 h 10\nsettle 0 7\n") + seen(s)
	text += s.Line("begin") + seen(s)
	for k := range api.MaxConns {
		for range 4 {
			text += s.Run(fmt.Sprintf("settle %d 7\nsee %d\nreset %d d 0\n", k, k, k))
		}
	}
	return text + seen(s)
}

// chance gives numbers that look like chance's, the same ones in each run.
type chance struct{ at uint64 }

func (c *chance) next() uint64 {
	c.at += 0x9e3779b97f4a7c15
	z := c.at
	z = (z ^ z>>30) * 0xbf58476d1ce4e5b9
	z = (z ^ z>>27) * 0x94d049bb133111eb
	return z ^ z>>31
}

func (c *chance) below(n int) int { return int(c.next() % uint64(n)) }

// one of these.
func (c *chance) one(list ...string) string { return list[c.below(len(list))] }
