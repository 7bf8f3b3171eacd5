package crc

import (
	"sync"
	"sync/atomic"

	"parapet/api"
)

// Table is an engine that looks bytes up; its table is built once.
type Table struct {
	once sync.Once
	// Atomic, so that Built may be asked while another goroutine is in its first Sum.
	built atomic.Bool
	words [256]uint32
}

// NewTable: not built yet.
func NewTable() *Table { return &Table{} }

// Built: has it been used?
func (t *Table) Built() bool { return t != nil && t.built.Load() }

// Sum: the check.
func (t *Table) Sum(b []byte) (uint32, api.Errno) {
	if t == nil {
		return 0, api.ErrNil
	}
	t.once.Do(t.build)
	return sumBytes(0, b, &t.words), api.OK
}

func (t *Table) build() {
	t.words = byteWords()
	t.built.Store(true)
}

// byteWords are the checks of each byte alone.
func byteWords() [256]uint32 {
	words := [256]uint32{}
	for i := range words {
		words[i] = Bits([]byte{byte(i)})
	}
	return words
}

// sumBytes takes bytes that stand behind others with the check sum.
func sumBytes(sum uint32, b []byte, words *[256]uint32) uint32 {
	for _, x := range b {
		sum = sum<<8 ^ words[byte(sum>>24)^x]
	}
	return sum
}
