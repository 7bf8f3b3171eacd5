package script

import (
	"iter"
	"slices"
	"strings"

	"parapet/api"
)

// setSize is how many numbers a set has.
const setSize = 5

// Head: a line of a net's make-up; false: it is none.
func Head(n api.Net, words []string) (api.Net, bool, api.Errno) {
	n.Hosts, n.Devices = slices.Clone(n.Hosts), slices.Clone(n.Devices)
	if !isHead(words) {
		return n, false, api.OK
	}
	e := enter(&n, words)
	return n, true, e
}

func isHead(words []string) bool {
	return len(words) > 0 && (words[0] == netWord || words[0] == hostWord || words[0] == deviceWord)
}

// enter brings what a net's line says into the net. Its lists must be the caller's own: they are appended to.
func enter(n *api.Net, words []string) api.Errno {
	if words[0] == netWord {
		return enterMost(n, words)
	}
	r, e := readerOf(words, setSize, setSize)
	if e != api.OK {
		return e
	}
	set := r.set()
	switch {
	case r.wrong:
		return api.ErrValue
	case words[0] == hostWord:
		n.Hosts = append(n.Hosts, set)
	default:
		n.Devices = append(n.Devices, set)
	}
	return api.OK
}

// enterMost is that of the line which says the greatest session number.
func enterMost(n *api.Net, words []string) api.Errno {
	r, e := readerOf(words, 1, 1)
	if e != api.OK {
		return e
	}
	most := r.number()
	if r.wrong {
		return api.ErrValue
	}
	n.MaxSession = most
	return api.OK
}

// Parse: the net and the script of a text, or the number of the first line that is wrong.
func Parse(text string) (api.Net, []api.Move, int, api.Errno) {
	if len(text) > api.MaxText {
		return api.Net{}, nil, 0, api.ErrLines
	}
	var s scene
	for at, line := range lines(text) {
		if e := s.take(line); e != api.OK {
			return api.Net{}, nil, at, e
		}
	}
	return s.net, s.moves, 0, api.OK
}

// lines gives a text's lines one by one, each with its number from 1 on.
func lines(text string) iter.Seq2[int, string] {
	return func(yield func(int, string) bool) {
		rest, more := text, true
		for at := 1; more; at++ {
			var line string
			line, rest, more = strings.Cut(rest, "\n")
			if !yield(at, line) {
				return
			}
		}
	}
}

// scene is what the lines of a text have said so far.
type scene struct {
	net   api.Net
	moves []api.Move
}

func (s *scene) take(line string) api.Errno {
	if len(line) > api.MaxLine {
		return api.ErrLines
	}
	words := Words(line)
	if len(words) == 0 {
		return api.OK
	}
	// Behind a move a net's line is read as a move, and so is none.
	if len(s.moves) == 0 && isHead(words) {
		// Not by Head, which copies all sets for each line.
		return enter(&s.net, words)
	}
	m, e := Read(words)
	if e == api.OK {
		s.moves = append(s.moves, m)
	}
	return e
}
