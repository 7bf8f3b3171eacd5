package script

import (
	"strconv"
	"strings"

	"parapet/api"
)

// The first words of a net's lines, and the one that may stand behind a written value.
const (
	netWord    = "net"
	hostWord   = "host"
	deviceWord = "device"
	holdWord   = "hold"
)

// kindWords are the first words of the moves' lines, by their kinds.
var kindWords = [...]string{
	api.MoveWrite:   "write",
	api.MoveSend:    "send",
	api.MoveDeliver: "deliver",
	api.MoveGarble:  "garble",
	api.MoveTick:    "tick",
	api.MoveAck:     "ack",
	api.MoveReset:   "reset",
	api.MoveCut:     "cut",
}

// kindOf is the kind whose lines begin with this word; false: there is none.
func kindOf(word string) (api.MoveKind, bool) {
	for k := api.MoveWrite; k <= api.MoveCut; k++ {
		if kindWords[k] == word {
			return k, true
		}
	}
	return 0, false
}

// usesSide: of the others it is settled which end does it.
func usesSide(k api.MoveKind) bool { return k != api.MoveSend && k != api.MoveCut }

// lastNumbers are those that stand behind the connection and the side.
func lastNumbers(m api.Move) []int {
	switch m.Kind {
	case api.MoveDeliver:
		return []int{m.Frame}
	case api.MoveGarble:
		return []int{m.Frame, m.At, int(m.Word)}
	case api.MoveTick, api.MoveReset, api.MoveCut:
		return []int{m.N}
	}
	return nil
}

// numberBits is how many bits a text's numbers have.
const numberBits = 32

// fit: has each of them a word?
func fit(numbers ...int) bool {
	for _, n := range numbers {
		if n < 0 || n >= 1<<numberBits {
			return false
		}
	}
	return true
}

func decimals(numbers ...int) []string {
	var words []string
	for _, n := range numbers {
		words = append(words, strconv.Itoa(n))
	}
	return words
}

// numberOf is the number that a word writes; false: it writes none.
func numberOf(word string) (uint32, bool) {
	n, err := strconv.ParseUint(word, 10, numberBits)
	// ParseUint takes zeros ahead of a number: written again, they are gone.
	return uint32(n), err == nil && strconv.FormatUint(n, 10) == word
}

func sideWord(s api.Side) string {
	if s == api.AtHost {
		return "h"
	}
	return "d"
}

// sideOf is the side that a word names; false: it names none.
func sideOf(word string) (api.Side, bool) {
	for _, s := range [...]api.Side{api.AtHost, api.AtDevice} {
		if sideWord(s) == word {
			return s, true
		}
	}
	return 0, false
}

const (
	// dataMark stands ahead of the digits, so that a value of no bytes is a word too.
	dataMark = "x"
	digits   = "0123456789abcdef"
)

func dataWord(data []byte) string {
	word := []byte(dataMark)
	for _, b := range data {
		word = append(word, digits[b>>4], digits[b&15])
	}
	return string(word)
}

// dataOf is the bytes that a word writes; false: it writes none.
func dataOf(word string) ([]byte, bool) {
	pairs, marked := strings.CutPrefix(word, dataMark)
	if !marked || len(pairs)%2 != 0 || len(pairs) > 2*api.MaxData {
		return nil, false
	}
	var data []byte
	for i := 0; i < len(pairs); i += 2 {
		high := strings.IndexByte(digits, pairs[i])
		low := strings.IndexByte(digits, pairs[i+1])
		if high < 0 || low < 0 {
			return nil, false
		}
		data = append(data, byte(high<<4|low))
	}
	return data, true
}
