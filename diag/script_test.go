package diag_test

import (
	"fmt"
	"testing"

	"parapet/api"
	"parapet/diag"
)

// do: a note, of OK too, held against the past.
func (p *past) do(t *testing.T, d *diag.Diag, code api.Errno, session, number uint32) {
	if code != api.OK {
		p.note(t, d, code, session, number)
		return
	}
	if at, e := d.Note(code, session, number); at != 0 || e != api.ErrRange {
		t.Fatalf("P12.1: Note(0, %d, %d): %d, %d, not 0, %d", session, number, at, e, api.ErrRange)
	}
}

// scripts calls try with every list of just so many of these codes.
func scripts(codes []api.Errno, length int, try func(script []api.Errno)) {
	script := make([]api.Errno, length)
	var from func(i int)
	from = func(i int) {
		if i == length {
			try(script)
			return
		}
		for _, code := range codes {
			script[i] = code
			from(i + 1)
		}
	}
	from(0)
}

// Behind each of these beginnings every short script, with OK and codes of both signs among them.
func TestEveryShortScript(t *testing.T) {
	codes := []api.Errno{api.OK, -1, 42, 100}
	for _, beginning := range []int{0, 1, api.MaxRecords - 3, api.MaxRecords - 1, api.MaxRecords, 2*api.MaxRecords - 2, 2 * api.MaxRecords} {
		for length := range 6 {
			scripts(codes, length, func(script []api.Errno) {
				d, p := filled(beginning)
				for i, code := range script {
					p.do(t, d, code, uint32(length), uint32(i))
				}
				p.hold(t, d)
			})
		}
	}
}

// steps gives numbers that look like chance, the same ones at each run.
type steps struct{ at uint64 }

func (s *steps) below(n int) int {
	s.at = s.at*6364136223846793005 + 1442695040888963407
	return int(s.at>>33) % n
}

// pick gives a code: OK now and then, else one of few, or one of many.
func (s *steps) pick() api.Errno {
	switch s.below(6) {
	case 0:
		return api.OK
	case 1, 2, 3:
		return strangers[s.below(len(strangers))]
	default:
		return api.Errno(s.below(60) - 30)
	}
}

func TestLongScripts(t *testing.T) {
	s := &steps{at: 30}
	for range 30 {
		d, p := diag.New(), &past{}
		for range 150 {
			p.do(t, d, s.pick(), uint32(s.below(1<<30)), uint32(s.below(9)))
			p.hold(t, d)
		}
		holdSums(t, d)
	}
}

func TestTwoInTurns(t *testing.T) {
	// Each goes by its own notes, whatever the other one is told between.
	s := &steps{at: 31}
	for range 10 {
		a, b := diag.New(), diag.New()
		p, q := &past{}, &past{}
		for range 120 {
			d, m := a, p
			if s.below(3) == 1 {
				d, m = b, q
			}
			m.do(t, d, s.pick(), uint32(s.below(5)), uint32(s.below(5)))
			p.hold(t, a)
			q.hold(t, b)
		}
	}
}

func TestTheSameAgain(t *testing.T) {
	// R8: what one is told, told to another, is answered the same.
	runs := func() (answers []string) {
		s := &steps{at: 32}
		d := diag.New()
		for range 200 {
			at, e := d.Note(s.pick(), uint32(s.below(9)), uint32(s.below(9)))
			last, ok := d.Last()
			answers = append(answers, fmt.Sprint(at, e, last, ok, d.Total(), d.Records(), d.Codes(), d.Count(42), d.Count(-1)))
		}
		return answers
	}
	once := runs()
	for range 3 {
		for i, got := range runs() {
			if got != once[i] {
				t.Fatalf("R8: answer %d: %s, then %s", i, once[i], got)
			}
		}
	}
}
