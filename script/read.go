package script

import (
	"strings"

	"parapet/api"
)

// Words: a line's words; none of a remark.
func Words(line string) []string {
	said, _, _ := strings.Cut(line, "#")
	return strings.FieldsFunc(said, isGap)
}

// isGap: only these three, not all that Unicode takes for a space.
func isGap(r rune) bool { return r == ' ' || r == '\t' || r == '\r' }

// Read: the move that words write.
func Read(words []string) (api.Move, api.Errno) {
	if len(words) == 0 {
		return api.Move{}, api.ErrFew
	}
	kind, known := kindOf(words[0])
	if !known {
		return api.Move{}, api.ErrWord
	}
	least, most := places(kind)
	r, e := readerOf(words, least, most)
	if e != api.OK {
		return api.Move{}, e
	}
	m := r.move(kind)
	if r.wrong {
		return api.Move{}, api.ErrValue
	}
	return m, api.OK
}

// places: how many words stand behind the first one of a kind's line, at least and at most.
func places(k api.MoveKind) (int, int) {
	n := 1 + len(lastNumbers(api.Move{Kind: k}))
	if usesSide(k) {
		n++
	}
	if k == api.MoveWrite {
		return n + 1, n + 2
	}
	return n, n
}

// reader takes a line's words one by one; wrong: one wasn't what is wanted in its place.
type reader struct {
	rest  []string
	wrong bool
}

// readerOf is one behind the first word, if there are as many others as a line may have.
func readerOf(words []string, least, most int) (reader, api.Errno) {
	rest := words[1:]
	switch {
	case len(rest) < least:
		return reader{}, api.ErrFew
	case len(rest) > most:
		return reader{}, api.ErrMany
	}
	return reader{rest: rest}, api.OK
}

// next is a word that is there: they were counted.
func (r *reader) next() string {
	word := r.rest[0]
	r.rest = r.rest[1:]
	return word
}

func (r *reader) expect(ok bool) { r.wrong = r.wrong || !ok }

func (r *reader) number() uint32 {
	n, ok := numberOf(r.next())
	r.expect(ok)
	return n
}

func (r *reader) side() api.Side {
	s, ok := sideOf(r.next())
	r.expect(ok)
	return s
}

func (r *reader) data() []byte {
	b, ok := dataOf(r.next())
	r.expect(ok)
	return b
}

// hold: does the word stand there that a line may have or not?
func (r *reader) hold() bool {
	if len(r.rest) == 0 {
		return false
	}
	r.expect(r.next() == holdWord)
	return true
}

func (r *reader) move(k api.MoveKind) api.Move {
	m := api.Move{Kind: k, Conn: int(r.number())}
	if usesSide(k) {
		m.Side = r.side()
	}
	switch k {
	case api.MoveWrite:
		m.Data = r.data()
		m.Hold = r.hold()
	case api.MoveDeliver:
		m.Frame = int(r.number())
	case api.MoveGarble:
		m.Frame = int(r.number())
		m.At = int(r.number())
		m.Word = r.number()
	case api.MoveTick, api.MoveReset, api.MoveCut:
		m.N = int(r.number())
	}
	return m
}

func (r *reader) set() api.Param {
	var p api.Param
	p.Code = r.number()
	p.Out = int(r.number())
	p.In = int(r.number())
	p.Watch = int(r.number())
	p.Count = r.number()
	return p
}
