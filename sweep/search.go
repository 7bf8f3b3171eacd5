package sweep

import (
	"sync"

	"parapet/api"
	"parapet/world"
)

// workers is how many play at one time; what they come to together doesn't hang on it.
const workers = 8

// search is what the workers share: they read what is to be played, and write to the counters alone.
type search struct {
	net             api.Net
	first, alphabet []api.Move
	depth, size     int
	counters
}

// all: every script is played when it answers, and no worker is left.
func (s *search) all() {
	var joined sync.WaitGroup
	for worker := range workers {
		joined.Add(1)
		go func() {
			defer joined.Done()
			s.share(worker)
		}()
	}
	joined.Wait()
}

// share is one worker's: the scripts whose numbers leave its own behind a division by the workers' number.
func (s *search) share(worker int) {
	for number := worker; number < s.size; number += workers {
		s.count(s.played(number))
	}
}

// played is a world behind the beginning and the script of that number.
func (s *search) played(number int) *world.World {
	// Explore has found the net lawful: nothing here is refused.
	w, _ := world.New(s.net)
	for _, m := range s.first {
		w.Play(m)
	}
	for _, m := range s.script(number) {
		w.Play(m)
	}
	return w
}

// script: the number's digits, by the alphabet's size, are the places of its moves.
func (s *search) script(number int) []api.Move {
	moves := make([]api.Move, s.depth)
	for i := range moves {
		moves[i] = s.alphabet[number%len(s.alphabet)]
		number /= len(s.alphabet)
	}
	return moves
}

// count adds a world, behind its last move.
func (s *search) count(w *world.World) {
	s.runs.Add(1)
	s.countHistory(s.net, w.Facts())
	for k := range s.net.Hosts {
		for _, side := range [...]api.Side{api.AtHost, api.AtDevice} {
			end, _ := w.See(k, side)
			s.countEnd(end)
		}
	}
}
