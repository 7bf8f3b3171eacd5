package crc

import (
	"sync"
	"sync/atomic"

	"parapet/api"
)

// Sliced is an engine that takes four bytes at a time; its tables are built once.
type Sliced struct {
	once sync.Once
	// Atomic, so that Built may be asked while another goroutine is in its first Sum.
	built atomic.Bool
	// words[k] are the checks of each byte with k bytes 0 behind it.
	words [4][256]uint32
}

// NewSliced: not built yet.
func NewSliced() *Sliced { return &Sliced{} }

// Built: has it been used?
func (s *Sliced) Built() bool { return s != nil && s.built.Load() }

// Sum: the check.
func (s *Sliced) Sum(b []byte) (uint32, api.Errno) {
	if s == nil {
		return 0, api.ErrNil
	}
	s.once.Do(s.build)
	sum := uint32(0)
	for len(b) >= 4 {
		sum = s.fourBytes(sum ^ word(b))
		b = b[4:]
	}
	return sumBytes(sum, b, &s.words[0]), api.OK
}

// fourBytes adds up what the four bytes of w come to, each at its own place.
func (s *Sliced) fourBytes(w uint32) uint32 {
	return s.words[3][w>>24] ^ s.words[2][byte(w>>16)] ^ s.words[1][byte(w>>8)] ^ s.words[0][byte(w)]
}

func (s *Sliced) build() {
	s.words[0] = byteWords()
	nothing := []byte{0}
	for k := range 3 {
		for i, sum := range s.words[k] {
			s.words[k+1][i] = sumBytes(sum, nothing, &s.words[0])
		}
	}
	s.built.Store(true)
}
