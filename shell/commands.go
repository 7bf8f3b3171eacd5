package shell

import (
	"strconv"
	"strings"

	"parapet/api"
	"parapet/fair"
	"parapet/ghost"
	"parapet/script"
	"parapet/trace"
	"parapet/world"
)

// command is a line's first word, how many numbers stand behind it, and what answers it.
type command struct {
	word    string
	numbers int
	run     func(s *Shell, numbers []int) string
}

func commands() []command {
	return []command{
		{"begin", 0, (*Shell).begin},
		{"see", 1, (*Shell).see},
		{"judge", 0, (*Shell).judge},
		{"facts", 0, (*Shell).facts},
		{"frame", 1, (*Shell).frame},
		{"memory", 1, (*Shell).memory},
		{"settle", 2, (*Shell).settle},
		{"counts", 0, (*Shell).counts},
	}
}

// commandOf is the command of this word; false: there is none.
func commandOf(word string) (command, bool) {
	for _, c := range commands() {
		if c.word == word {
			return c, true
		}
	}
	return command{}, false
}

// numbersOf are the numbers that a command's arguments write.
func (c command) numbersOf(arguments []string) []int {
	switch {
	case len(arguments) < c.numbers:
		refuse(api.ErrFew)
	case len(arguments) > c.numbers:
		refuse(api.ErrMany)
	}
	var numbers []int
	for _, word := range arguments {
		numbers = append(numbers, numberOf(word))
	}
	return numbers
}

// numberOf leaves it to layer 20 what a number is: a line that sends has just one.
func numberOf(word string) int {
	m, e := script.Read([]string{"send", word})
	refuse(e)
	return m.Conn
}

func (s *Shell) begin([]int) string {
	w, e := world.New(s.net)
	refuse(e)
	s.world = w
	return said("ok")
}

func (s *Shell) see(numbers []int) string {
	w := s.begun()
	host, e := w.See(numbers[0], api.AtHost)
	refuse(e)
	dev, e := w.See(numbers[0], api.AtDevice)
	refuse(e)
	return said("h:"+trace.End(host), "d:"+trace.End(dev))
}

func (s *Shell) judge([]int) string {
	w := s.begun()
	// By the net that is played: the make-up may be another one by now.
	return verdictLine(ghost.Check(w.Net(), w.Facts()))
}

func verdictLine(v api.Verdict) string {
	if v.Rule == 0 {
		return said("good")
	}
	return said("bad", strconv.Itoa(v.Rule), strconv.Itoa(v.At))
}

func (s *Shell) facts([]int) string {
	var lines strings.Builder
	for _, f := range s.begun().Facts() {
		lines.WriteString(said(trace.Fact(f)))
	}
	return lines.String()
}

func (s *Shell) frame(numbers []int) string {
	frame, e := s.begun().Frame(numbers[0])
	refuse(e)
	return said("frame", bytesWord(frame))
}

func (s *Shell) memory(numbers []int) string {
	memory, e := s.begun().Memory(numbers[0])
	refuse(e)
	return said("memory", bytesWord(memory))
}

func (s *Shell) settle(numbers []int) string {
	exchanges, up, e := fair.Settle(s.begun(), numbers[0], numbers[1])
	refuse(e)
	word := "not"
	if up {
		word = "up"
	}
	return said(word, strconv.Itoa(exchanges))
}

func (s *Shell) counts([]int) string {
	w := s.begun()
	return said("moves", strconv.Itoa(w.Moves()), "frames", strconv.Itoa(w.Frames()))
}

const digits = "0123456789abcdef"

// bytesWord writes bytes as scripts do: a mark, and two digits of base sixteen a byte.
func bytesWord(list []byte) string {
	word := []byte("x")
	for _, b := range list {
		word = append(word, digits[b>>4], digits[b&15])
	}
	return string(word)
}
