package passive_test

import (
	"bytes"
	"fmt"
	"testing"

	"parapet/api"
	"parapet/passive"
)

// The calls of a script.
const (
	trip  = 't'
	run   = 'r'
	hold  = 'h'
	fresh = 'f'
	take  = 'v'
	ack   = 'a'
)

// step is one call, with what it is handed.
type step struct {
	call  byte
	on    bool
	code  api.Errno
	value []byte
}

func (s step) String() string {
	switch s.call {
	case trip:
		return fmt.Sprintf("Trip(%d)", s.code)
	case run:
		return fmt.Sprintf("Run(%v)", s.on)
	case hold:
		return fmt.Sprintf("Hold(%v)", s.on)
	case take:
		return fmt.Sprintf("Take(% x)", s.value)
	case fresh:
		return "Fresh"
	}
	return "Ack"
}

// past is what was done to a valve for n bytes, and answers by that alone what it must answer next.
type past struct {
	n     int
	steps []step
	taken []bool // of each step: is it an Ack that was taken?
}

// lastOf: behind which steps the last one lies for which is says so; 0, if there is none.
func (p *past) lastOf(is func(i int) bool) int {
	for i := len(p.steps) - 1; i >= 0; i-- {
		if is(i) {
			return i + 1
		}
	}
	return 0
}

func (p *past) isRun(i int) bool   { return p.steps[i].call == run }
func (p *past) isFault(i int) bool { return p.steps[i].call == trip && p.steps[i].code != api.OK }
func (p *past) isTaken(i int) bool { return p.taken[i] }

// isTurn: a Run that changed whether it was running.
func (p *past) isTurn(i int) bool {
	was := &past{steps: p.steps[:i]}
	return p.isRun(i) && p.steps[i].on != was.running()
}

func (p *past) running() bool {
	at := p.lastOf(p.isRun)
	return at > 0 && p.steps[at-1].on
}

func (p *past) held() bool {
	at := p.lastOf(func(i int) bool { return p.steps[i].call == hold })
	return p.running() && at > p.lastOf(p.isTurn) && p.steps[at-1].on
}

// latched: the first fault behind the last Ack that was taken.
func (p *past) latched() api.Errno {
	for i := p.lastOf(p.isTaken); i < len(p.steps); i++ {
		if p.isFault(i) {
			return p.steps[i].code
		}
	}
	return api.OK
}

func (p *past) request() bool {
	came := p.lastOf(func(i int) bool { return p.steps[i].call == fresh })
	return p.running() && p.latched() != api.OK && came > p.lastOf(p.isFault)
}

// output: the last value since it runs, since the last fault and since the last Ack that was taken.
func (p *past) output() ([]byte, bool) {
	came := p.lastOf(func(i int) bool { return p.steps[i].call == take && len(p.steps[i].value) == p.n })
	since := max(p.lastOf(p.isTurn), p.lastOf(p.isFault), p.lastOf(p.isTaken))
	if p.running() && !p.held() && p.latched() == api.OK && came > since {
		return p.steps[came-1].value, true
	}
	return make([]byte, p.n), false
}

// answer: what this step is answered next: an Errno, or 1 for true.
func (p *past) answer(s step) int {
	switch {
	case s.call == trip && s.code != api.OK && p.latched() == api.OK:
		return 1
	case s.call == take && len(s.value) != p.n:
		return int(api.ErrLength)
	case s.call == ack && !p.request():
		return int(api.ErrRequest)
	}
	return 0
}

func (p *past) add(s step) {
	taken := s.call == ack && p.answer(s) == 0
	p.steps = append(p.steps, s)
	p.taken = append(p.taken, taken)
}

// do: the step, done to a valve; the answer as past tells it.
func (s step) do(v *passive.Valve) int {
	switch s.call {
	case trip:
		if v.Trip(s.code) {
			return 1
		}
	case run:
		v.Run(s.on)
	case hold:
		v.Hold(s.on)
	case fresh:
		v.Fresh()
	case take:
		return int(v.Take(s.value))
	case ack:
		return int(v.Ack())
	}
	return 0
}

// same: does a valve show what its past says?
func (p *past) same(v *passive.Valve) bool {
	want, on := p.output()
	got, is := v.Output()
	return bytes.Equal(got, want) && is == on && v.Latched() == p.latched() && v.Request() == p.request()
}

// holdStep does a step to a valve, and holds it and what shows behind it against its past.
func (p *past) holdStep(t *testing.T, v *passive.Valve, s step) {
	want := p.answer(s)
	got := s.do(v)
	p.add(s)
	if got != want {
		t.Fatalf("P11.2 to P11.5: %v: the last one is answered %d, not %d", p.steps, got, want)
	}
	if !p.same(v) {
		b, on := v.Output()
		shows, is := p.output()
		t.Fatalf("P11.2 to P11.6: %v: Output % x, %v, not % x, %v; Latched %d, not %d; Request %v, not %v", p.steps, b, on, shows, is, v.Latched(), p.latched(), v.Request(), p.request())
	}
}

// every: all steps that a valve for n bytes may be told, with two values and two codes.
func every(n int) []step {
	return []step{
		{call: trip, code: first}, {call: trip, code: other}, {call: trip},
		{call: run, on: true}, {call: run},
		{call: hold, on: true}, {call: hold},
		{call: fresh}, {call: ack},
		{call: take, value: full(n, 1)}, {call: take, value: full(n, 2)}, {call: take, value: full(n+1, 3)},
	}
}

// scripts calls try with every script of just so many of these steps.
func scripts(steps []step, length int, try func(script []step)) {
	script := make([]step, length)
	var from func(i int)
	from = func(i int) {
		if i == length {
			try(script)
			return
		}
		for _, s := range steps {
			script[i] = s
			from(i + 1)
		}
	}
	from(0)
}

// holdScript: behind a beginning that is known to hold, step for step as its past says.
func holdScript(t *testing.T, n int, beginning, script []step) {
	v, _ := passive.New(n)
	p := &past{n: n}
	for _, s := range beginning {
		s.do(v)
		p.add(s)
	}
	for _, s := range script {
		p.holdStep(t, v, s)
	}
}

func TestEveryShortScript(t *testing.T) {
	for length := range 6 {
		scripts(every(2), length, func(script []step) { holdScript(t, 2, nil, script) })
	}
}

// beginnings: a way to each place where a valve for n bytes can stand: running or not, held or
// not, with a value, or with a fault latched, and something fresh since, or not; to some of them two.
func beginnings(n int) [][]step {
	on, off := step{call: run, on: true}, step{call: run}
	held, free := step{call: hold, on: true}, step{call: hold}
	fault, again := step{call: trip, code: first}, step{call: trip, code: other}
	came, taken := step{call: fresh}, step{call: ack}
	value := step{call: take, value: full(n, 5)}
	return [][]step{
		{}, {on, value, held, off},
		{fault}, {on, value, fault, off}, {fault, came, again},
		{fault, came}, {on, fault, came, off},
		{on}, {on, fault, came, taken},
		{on, value}, {on, held, value, free}, {on, fault, came, taken, value},
		{on, held}, {on, held, fault, came, taken},
		{on, held, value}, {on, value, held},
		{on, fault}, {on, value, fault, came, again}, {fault, on},
		{on, held, fault}, {on, fault, held}, {on, value, held, fault},
		{on, fault, came}, {fault, came, on},
		{on, held, fault, came}, {on, value, held, fault, came, again, came},
	}
}

func TestEveryShortScriptBehindEachBeginning(t *testing.T) {
	for n := 1; n <= api.MaxData; n++ {
		for _, beginning := range beginnings(n) {
			holdScript(t, n, nil, beginning)
			for length := range 4 {
				scripts(every(n), length, func(script []step) { holdScript(t, n, beginning, script) })
			}
		}
	}
}

// steps gives numbers that look like chance, the same ones at each run.
type steps struct{ at uint64 }

func (s *steps) below(n int) int {
	s.at = s.at*6364136223846793005 + 1442695040888963407
	return int(s.at>>33) % n
}

// pick gives a step for a valve for n bytes; faults and stops come seldom enough for the rest to show.
func (s *steps) pick(n int) step {
	switch s.below(20) {
	case 0, 1:
		return step{call: trip, code: api.Errno(s.below(200) - 50)}
	case 2:
		return step{call: run, on: s.below(3) > 0}
	case 3, 4, 5:
		return step{call: run, on: true}
	case 6, 7:
		return step{call: hold, on: s.below(2) == 0}
	case 8, 9, 10:
		return step{call: fresh}
	case 11, 12, 13:
		return step{call: ack}
	case 14:
		return step{call: take, value: full(s.below(api.MaxData+2), s.below(99))}
	default:
		return step{call: take, value: full(n, s.below(99))}
	}
}

func TestLongScripts(t *testing.T) {
	s := &steps{at: 20}
	for n := 1; n <= api.MaxData; n++ {
		for range 20 {
			v := newValve(t, n)
			p := &past{n: n}
			for range 200 {
				p.holdStep(t, v, s.pick(n))
			}
		}
	}
}

// Told by no past: a latch holds until an Ack is taken, and while it does, nothing comes out.
func TestALatchHolds(t *testing.T) {
	s := &steps{at: 21}
	latches, acks, shown := 0, 0, 0
	for n := 1; n <= api.MaxData; n++ {
		v := newValve(t, n)
		for range 5000 {
			was := v.Latched()
			next := s.pick(n)
			answer := next.do(v)
			now := v.Latched()
			got, on := v.Output()
			switch {
			case was != api.OK && next.call == ack && answer == 0:
				acks++
				if now != api.OK || on {
					t.Fatalf("P11.5: behind an Ack: Latched %d, Output % x, %v", now, got, on)
				}
			case was != api.OK && now != was:
				t.Fatalf("P11.7: %v ends or changes a latch: %d, then %d", next, was, now)
			case was == api.OK && now != api.OK:
				latches++
				if next.call != trip || now != next.code {
					t.Fatalf("P11.7: %v latches %d", next, now)
				}
			}
			if now != api.OK && (on || !bytes.Equal(got, make([]byte, n))) {
				t.Fatalf("P11.7: Latched %d, Output % x, %v", now, got, on)
			}
			if on {
				shown++
			}
		}
	}
	if latches < 100 || acks < 100 || shown < 1000 {
		t.Errorf("too little was tried: %d latches, %d taken Acks, %d values", latches, acks, shown)
	}
}

func TestTwoInTurns(t *testing.T) {
	// Each goes by its own steps, whatever the other one does between.
	s := &steps{at: 22}
	for _, sizes := range [][2]int{{1, 1}, {2, 2}, {1, 8}, {8, 3}, {8, 8}} {
		a, b := newValve(t, sizes[0]), newValve(t, sizes[1])
		p, q := &past{n: sizes[0]}, &past{n: sizes[1]}
		for range 500 {
			v, m := a, p
			if s.below(2) == 1 {
				v, m = b, q
			}
			m.holdStep(t, v, s.pick(m.n))
			if !p.same(a) || !q.same(b) {
				t.Fatalf("R8: for %v bytes: %v, and %v: one touches the other", sizes, p.steps, q.steps)
			}
		}
	}
}

func TestTheSameAgain(t *testing.T) {
	// R8: what is done to one, done to another, is answered the same.
	runs := func() (answers []string) {
		s := &steps{at: 23}
		v := newValve(t, 3)
		for range 300 {
			answer := s.pick(3).do(v)
			b, on := v.Output()
			answers = append(answers, fmt.Sprint(answer, b, on, v.Latched(), v.Request()))
		}
		return answers
	}
	once := runs()
	for range 3 {
		for i, got := range runs() {
			if got != once[i] {
				t.Fatalf("R8: answer %d: %s, then %s", i, once[i], got)
			}
		}
	}
}
