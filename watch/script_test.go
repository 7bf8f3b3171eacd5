package watch_test

import (
	"testing"

	"parapet/api"
	"parapet/watch"
)

// feed stands in a script for a feeding; every other number is handed to Ticks.
const feed = -100

// plain is a watchdog told as the chapter tells it: tick for tick.
type plain struct{ limit, count int }

func (p *plain) tick() bool {
	if p.count >= p.limit {
		return false
	}
	p.count++
	return p.count == p.limit
}

func (p *plain) ticks(n int) (bool, api.Errno) {
	if n < 0 {
		return false, api.ErrRange
	}
	reached := false
	// Beyond the limit further ones bring nothing.
	for range min(n, 2*p.limit) {
		if p.tick() {
			reached = true
		}
	}
	return reached, api.OK
}

// step does one step of a script at both; what the watchdog answered, and whether both answered and hold the same.
func (p *plain) step(d *watch.Dog, n int) (reached, same bool) {
	if n == feed {
		d.Feed()
		p.count = 0
	} else {
		want, e := p.ticks(n)
		got, code := d.Ticks(n)
		if got != want || code != e {
			return got, false
		}
		reached = got
	}
	return reached, d.Since() == p.count && d.Limit() == p.limit && d.Expired() == (p.count == p.limit)
}

// holdScript: step for step as the plain one does, and true at most once between two feedings.
func holdScript(t *testing.T, limit int, script []int) {
	d, _ := watch.New(limit)
	p := &plain{limit: limit}
	told := 0
	for i, n := range script {
		was := p.count
		reached, same := p.step(d, n)
		if !same {
			t.Fatalf("P10.1: limit %d: %v, step %d: Since %d, not %d", limit, script, i, d.Since(), p.count)
		}
		if n == feed {
			told = 0
		}
		if reached {
			told++
		}
		if told > 1 || reached && (was >= limit || n < limit-was) {
			t.Fatalf("P10.2: limit %d: %v, step %d: true %d times, from %d on", limit, script, i, told, was)
		}
	}
}

// scripts calls try with every script of just so many of these steps.
func scripts(steps []int, length int, try func(script []int)) {
	script := make([]int, length)
	var from func(i int)
	from = func(i int) {
		if i == length {
			try(script)
			return
		}
		for _, n := range steps {
			script[i] = n
			from(i + 1)
		}
	}
	from(0)
}

func TestEveryShortScript(t *testing.T) {
	for limit := 1; limit <= 4; limit++ {
		for length := range 7 {
			scripts([]int{feed, 0, 1, 2, 3, -1, top}, length, func(script []int) { holdScript(t, limit, script) })
		}
	}
}

// steps gives numbers that look like chance, the same ones at each run.
type steps struct{ at uint64 }

func (s *steps) below(n int) int {
	s.at = s.at*6364136223846793005 + 1442695040888963407
	return int(s.at>>33) % n
}

// pick gives a step for a watchdog with this limit that has so many ticks left.
func (s *steps) pick(limit, left int) int {
	switch s.below(12) {
	case 0:
		return feed
	case 1:
		return -1 - s.below(99)
	case 2:
		return top - s.below(limit)
	case 3:
		return max(0, left-1)
	case 4:
		return left
	case 5:
		return left + 1
	case 6:
		return s.below(2 * limit)
	default:
		return s.below(limit/4 + 2)
	}
}

func TestLongScripts(t *testing.T) {
	s := &steps{at: 10}
	for _, limit := range []int{1, 2, 3, 7, 64, 1000, 4096} {
		for range 20 {
			p := &plain{limit: limit}
			script := make([]int, 200)
			for i := range script {
				script[i] = s.pick(limit, limit-p.count)
				if script[i] == feed {
					p.count = 0
				} else {
					p.ticks(script[i])
				}
			}
			holdScript(t, limit, script)
		}
	}
}

func TestTwoInTurns(t *testing.T) {
	// Each goes by its own steps, whatever the other one does between.
	s := &steps{at: 11}
	for _, limits := range [][2]int{{1, 1}, {1, 2}, {3, 3}, {5, 64}, {1000, 7}} {
		a, b := newDog(t, limits[0]), newDog(t, limits[1])
		p, q := &plain{limit: limits[0]}, &plain{limit: limits[1]}
		for range 2000 {
			d, m := a, p
			if s.below(2) == 1 {
				d, m = b, q
			}
			n := s.pick(m.limit, m.limit-m.count)
			if _, same := m.step(d, n); !same {
				t.Fatalf("P10.1: limits %v: step %d at the one with %d: Since %d, not %d", limits, n, m.limit, d.Since(), m.count)
			}
			holdDog(t, a, p.limit, p.count)
			holdDog(t, b, q.limit, q.count)
		}
	}
}

func TestTheSameAgain(t *testing.T) {
	// R8: what is done to one, done to another, is answered the same.
	script := []int{0, 1, 2, feed, 5, top, -1, feed, feed, 3, 3, 3, 0, least, 1}
	run := func() (answers []bool) {
		d := newDog(t, 7)
		for _, n := range script {
			if n == feed {
				d.Feed()
			} else {
				got, _ := d.Ticks(n)
				answers = append(answers, got)
			}
			answers = append(answers, d.Tick(), d.Expired())
		}
		return answers
	}
	first := run()
	for range 3 {
		for i, got := range run() {
			if got != first[i] {
				t.Fatalf("R8: answer %d: %v, then %v", i, first[i], got)
			}
		}
	}
}

// holdBundle: n ticks at once do what n single ones do.
func holdBundle(t *testing.T, limit, count, n int) {
	t.Helper()
	once, single := newDog(t, limit), newDog(t, limit)
	once.Ticks(count)
	reached := false
	for range count {
		single.Tick()
	}
	for range n {
		if single.Tick() {
			if reached {
				t.Errorf("P10.2: limit %d: single Ticks were true twice", limit)
			}
			reached = true
		}
	}
	holdTicks(t, once, n, reached, api.OK)
	holdDog(t, once, limit, single.Since())
	if once.Expired() != single.Expired() {
		t.Errorf("P10.1: limit %d, from %d on, Ticks(%d): Expired %v; by single ones %v", limit, count, n, once.Expired(), single.Expired())
	}
}

func TestBundles(t *testing.T) {
	for limit := 1; limit <= 12; limit++ {
		for count := range limit + 2 {
			for n := range 2*limit + 3 {
				holdBundle(t, limit, count, n)
			}
		}
	}
	for _, limit := range []int{1 << 16, long} {
		for _, n := range []int{0, 1, 9, 10, 11, 100} {
			holdBundle(t, limit, limit-10, n)
		}
		holdBundle(t, limit, 0, limit-1)
		holdBundle(t, limit, 0, limit)
		holdBundle(t, limit, 1, limit+1)
	}
}

func TestHoweverTheyAreBundled(t *testing.T) {
	// Every way to cut 10 ticks in a row into pieces: bit i says whether there is a cut behind the tick i + 1.
	const all = 10
	for limit := 1; limit <= all+1; limit++ {
		for cuts := range 1 << (all - 1) {
			d := newDog(t, limit)
			told, piece, done := 0, 0, 0
			for i := range all {
				piece++
				if cuts>>i&1 == 0 && i < all-1 {
					continue
				}
				reached, e := d.Ticks(piece)
				done += piece
				if reached {
					told++
				}
				if e != api.OK || reached != (done >= limit && done-piece < limit) || d.Since() != min(done, limit) {
					t.Fatalf("P10.1: limit %d: Ticks(%d) up to %d: %v, %d; Since %d", limit, piece, done, reached, e, d.Since())
				}
				piece = 0
			}
			if want := limit <= all; (told == 1) != want || told > 1 {
				t.Fatalf("P10.2: limit %d, cuts %b: true %d times", limit, cuts, told)
			}
			holdDog(t, d, limit, min(all, limit))
		}
	}
}

func TestBundlesWithFeedingsBetween(t *testing.T) {
	s := &steps{at: 12}
	for _, limit := range []int{1, 2, 3, 10, 100} {
		once, single := newDog(t, limit), newDog(t, limit)
		told, fed := 0, 1
		for range 2000 {
			if s.below(3) == 0 {
				once.Feed()
				single.Feed()
				fed++
			}
			n := s.below(limit + 2)
			reached := false
			for range n {
				reached = single.Tick() || reached
			}
			holdTicks(t, once, n, reached, api.OK)
			holdDog(t, once, limit, single.Since())
			if reached {
				told++
			}
		}
		if told == 0 || told > fed {
			t.Errorf("P10.2: limit %d: true %d times, fed %d times", limit, told, fed)
		}
	}
}
