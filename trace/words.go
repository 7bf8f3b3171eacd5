package trace

import (
	"strconv"
	"strings"

	"parapet/api"
)

const (
	hostMark   = "h"
	deviceMark = "d"

	// noneMark stands for what has no word.
	noneMark = "?"
)

// stateWords are the states' words, by their numbers.
var stateWords = [...]string{
	api.Idle:    "idle",
	api.Offered: "offered",
	api.Agreed:  "agreed",
	api.Running: "running",
	api.Done:    "done",
	api.Down:    "down",
}

// stateWord tells the number of a state that is none, so that two of these are told apart.
func stateWord(s api.State) string {
	if s < api.Idle || s > api.Down {
		return noneMark + strconv.Itoa(int(s))
	}
	return stateWords[s]
}

// factWords are the first words of the facts' lines, by their kinds.
var factWords = [...]string{
	api.FactSent:    "sent",
	api.FactTaken:   "taken",
	api.FactSession: "session",
	api.FactFresh:   "fresh",
	api.FactTick:    "tick",
	api.FactAck:     "ack",
	api.FactReset:   "reset",
	api.FactOut:     "out",
}

func factWord(k api.FactKind) string {
	if k < api.FactSent || k > api.FactOut {
		return noneMark
	}
	return factWords[k]
}

func sideWord(s api.Side) string {
	switch s {
	case api.AtHost:
		return hostMark
	case api.AtDevice:
		return deviceMark
	}
	return noneMark
}

func onWord(on bool) string {
	if on {
		return "on"
	}
	return "off"
}

func decimals(numbers ...int) []string {
	var words []string
	for _, n := range numbers {
		words = append(words, strconv.Itoa(n))
	}
	return words
}

// dataWord has a mark ahead of the digits, so that data of no bytes are a word too.
func dataWord(data []byte) string { return "x" + sixteen(data) }

const digits = "0123456789abcdef"

// sixteen writes two digits of base sixteen a byte.
func sixteen(data []byte) string {
	var word strings.Builder
	for _, b := range data {
		word.WriteByte(digits[b>>4])
		word.WriteByte(digits[b&15])
	}
	return word.String()
}
