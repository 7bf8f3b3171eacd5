package unit

import (
	"parapet/api"
	"parapet/crc"
)

// Where a frame's fields stand.
const (
	kindAt    = 0
	codeAt    = 1
	sessionAt = 5
	numberAt  = 9
	flagsAt   = 13
	lengthAt  = 14
	dataAt    = 15
)

// How many bytes stand behind the data.
const checkSize = api.MinUnit - dataAt

// Encode: a unit's bytes.
func Encode(u api.Unit) ([]byte, api.Errno) {
	if e := Lawful(u); e != api.OK {
		return nil, e
	}
	b := make([]byte, dataAt+len(u.Data))
	b[kindAt] = byte(u.Kind)
	putWord(b[codeAt:], u.Code)
	putWord(b[sessionAt:], u.Session)
	putWord(b[numberAt:], u.Number)
	b[flagsAt] = byte(u.Flags)
	b[lengthAt] = byte(len(u.Data))
	copy(b[dataAt:], u.Data)
	return crc.Seal(b), api.OK
}

// Decode: the unit of bytes.
func Decode(b []byte) (api.Unit, api.Errno) {
	switch {
	case len(b) < api.MinUnit:
		return api.Unit{}, api.ErrShort
	case len(b) > api.MaxUnit:
		return api.Unit{}, api.ErrLong
	case !crc.Valid(b):
		return api.Unit{}, api.ErrCheck
	}
	u := fields(b)
	if e := fault(u, int(b[lengthAt])); e != api.OK {
		return api.Unit{}, e
	}
	return u, api.OK
}

// fields reads what stands in a frame's bytes, whatever the frame says of their number.
func fields(b []byte) api.Unit {
	return api.Unit{
		Kind:    api.Kind(b[kindAt]),
		Code:    wordOf(b[codeAt:]),
		Session: wordOf(b[sessionAt:]),
		Number:  wordOf(b[numberAt:]),
		Flags:   int(b[flagsAt]),
		// Copied, since the frame's bytes stay the caller's.
		Data: append([]byte(nil), b[dataAt:len(b)-checkSize]...),
	}
}

// putWord writes a word into the first four bytes, the highest first.
func putWord(b []byte, x uint32) {
	for i := range 4 {
		b[i] = byte(x >> (24 - 8*i))
	}
}

// wordOf reads it back.
func wordOf(b []byte) uint32 {
	return uint32(b[0])<<24 | uint32(b[1])<<16 | uint32(b[2])<<8 | uint32(b[3])
}
