package shell_test

import (
	"bytes"
	"strings"
	"testing"
	"unsafe"

	"parapet/shell"
)

// lent is a text in bytes that may be changed behind a call.
type lent struct {
	bytes []byte
	was   []byte
	text  string
}

// lend: the text stands in the midst of other bytes.
func lend(text string) *lent {
	whole := []byte("see 0\n" + text + "\njudge\n")
	part := whole[6 : 6+len(text)]
	x := &lent{bytes: whole, was: bytes.Clone(whole)}
	if len(part) > 0 {
		x.text = unsafe.String(&part[0], len(part))
	}
	return x
}

func (x *lent) changed() bool { return !bytes.Equal(x.bytes, x.was) }

func (x *lent) spoil() {
	for i := range x.bytes {
		x.bytes[i] = '7'
	}
}

// meets: does an answer stand in the text's memory?
func (x *lent) meets(answer string) bool {
	if len(answer) == 0 {
		return false
	}
	at, first := uintptr(unsafe.Pointer(unsafe.StringData(answer))), uintptr(unsafe.Pointer(&x.bytes[0]))
	return at < first+uintptr(len(x.bytes)) && first < at+uintptr(len(answer))
}

// R6: what is handed in is neither changed nor kept, and the answers stay, whatever becomes of it.
func TestLinesAreNotKept(t *testing.T) {
	s := shell.New()
	var answers, wants []string
	twin := shell.New()
	for _, line := range strings.Split(mixed+other, "\n") {
		x := lend(line)
		answer := s.Line(x.text)
		if x.changed() || x.meets(answer) {
			t.Fatalf("R6: Line(%q) changes its text, or answers a piece of it: %q", line, answer)
		}
		x.spoil()
		answers, wants = append(answers, answer), append(wants, strings.Clone(twin.Line(line)))
	}
	for i := range answers {
		if answers[i] != wants[i] {
			t.Fatalf("R6: what was answered, %q, becomes %q", wants[i], answers[i])
		}
	}
}

func TestTextsAreNotKept(t *testing.T) {
	parts := []string{madeUp, "begin\nsettle 0 7\n", "write 0 h xaabb\nsend 0\nwrite 0 d x11", "deliver 0 d 6\ndeliver 0 h 7\nframe 6\nhost 8 1 1 1 5", "see 0\nfacts\ndevice 8 1 1 1 5\nbegin\nsettle 1 7\nsee 1"}
	s, twin := shell.New(), shell.New()
	var answers, wants []string
	for _, text := range parts {
		x := lend(text)
		answer := s.Run(x.text)
		if x.changed() || x.meets(answer) {
			t.Fatalf("R6: Run(%q) changes its text, or answers a piece of it: %q", text, answer)
		}
		x.spoil()
		answers, wants = append(answers, answer), append(wants, strings.Clone(twin.Run(text)))
	}
	for i := range answers {
		if answers[i] != wants[i] {
			t.Fatalf("R6: what was answered, %q, becomes %q", wants[i], answers[i])
		}
	}
	for _, text := range []string{mixed, other} {
		x := lend(text)
		answer := shell.Run(x.text)
		if x.changed() || x.meets(answer) {
			t.Fatalf("R6: Run(%q) changes its text, or answers a piece of it: %q", text, answer)
		}
		x.spoil()
		if want := shell.Run(text); answer != want {
			t.Fatalf("R6: what was answered, %q, becomes %q", want, answer)
		}
	}
}
