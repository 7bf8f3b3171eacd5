package shell_test

import (
	"fmt"
	"strings"
	"testing"

	"parapet/api"
)

// apart: two ends with unlike codes, which never come together.
const apart = "net 9\nhost 7 2 1 10 100\ndevice 8 2 1 10 100\nbegin\n"

func TestSettle(t *testing.T) {
	for _, v := range []struct{ text, line, want string }{
		{begun, "settle 0 7", "up 3\n"},
		{begun, "settle 0 3", "up 3\n"},
		{begun, "settle 0 4294967295", "up 3\n"},
		{begun, "settle 0 2", "not 2\n"},
		{begun, "settle 0 1", "not 1\n"},
		{begun, "settle 0 0", "not 0\n"},
		{up, "settle 0 0", "up 0\n"},
		{up, "settle 0 7", "up 0\n"},
		{up, "settle 0 4294967295", "up 0\n"},
		{begun + "settle 0 2\n", "settle 0 7", "up 1\n"},
		{talked + "reset 0 h 0\n", "settle 0 7", "up 6\n"},
		{talked + "reset 0 d 0\n", "settle 0 7", "up 7\n"},
		{talked + "reset 0 d 0\n", "settle 0 6", "not 6\n"},
		{talked + "reset 0 d 0\n", "settle 0 0", "not 0\n"},
		{apart, "settle 0 7", "not 7\n"},
		{apart, "settle 0 100", "not 100\n"},
		{apart, "settle 0 2048", "not 2048\n"},
		{begun, "settle 1 7", refused(api.ErrConn)},
		{begun, "settle 1 0", refused(api.ErrConn)},
		{up, "settle 4294967295 4294967295", refused(api.ErrConn)},
	} {
		says(t, behind(v.text), v.line, v.want)
	}
}

// Settle plays moves of the world; with 0 exchanges, and where there is no such connection, none.
func TestSettlePlays(t *testing.T) {
	for line, want := range map[string]string{
		"settle 0 0": "moves 0 frames 0\n",
		"settle 0 1": "moves 3 frames 2\n",
		"settle 0 2": "moves 6 frames 4\n",
		"settle 0 7": "moves 9 frames 6\n",
		"settle 1 7": "moves 0 frames 0\n",
		"settle 0 x": "moves 0 frames 0\n",
		"settle 0":   "moves 0 frames 0\n",
	} {
		s := behind(begun)
		s.Line(line)
		says(t, s, "counts", want)
	}
	// With the operator: two moves more.
	s := behind(talked + "tick 0 h 10\ntick 0 d 10\n")
	says(t, s, "settle 0 7", "up 1\n")
	says(t, s, "counts", "moves 21 frames 10\n")
	says(t, s, "see 0", "h:running,1,2,2,0,0,off d:running,1,2,2,0,0,off\n")
}

// What a settle played ahead of its error stays.
func TestSettleWithAnError(t *testing.T) {
	for _, v := range []struct {
		ahead, frames int
		see           string
	}{
		{api.MaxMoves, 0, "h:idle,0,0,0,0,0,off d:idle,0,0,0,0,0,off\n"},
		{api.MaxMoves - 1, 1, "h:idle,0,0,0,0,0,off d:idle,0,0,0,0,0,off\n"},
		{api.MaxMoves - 2, 2, "h:idle,0,0,0,0,0,off d:offered,1,0,0,0,0,off\n"},
		{api.MaxMoves - 3, 2, "h:offered,1,0,0,0,0,off d:offered,1,0,0,0,0,off\n"},
		{api.MaxMoves - 4, 3, "h:offered,1,0,0,0,0,off d:offered,1,0,0,0,0,off\n"},
		{api.MaxMoves - 8, 6, "h:agreed,1,0,0,0,0,off d:running,1,0,0,0,0,off\n"},
	} {
		s := behind(begun + strings.Repeat("tick 0 h 0\n", v.ahead))
		refuses(t, s, "settle 0 7", api.ErrFull)
		says(t, s, "counts", fmt.Sprintf("moves %d frames %d\n", api.MaxMoves, v.frames))
		says(t, s, "see 0", v.see)
		says(t, s, "judge", "good\n")
		refuses(t, s, "settle 0 7", api.ErrFull)
		says(t, s, "settle 0 0", "not 0\n")
		refuses(t, s, "settle 1 7", api.ErrConn)
	}
	// Just enough.
	s := behind(begun + strings.Repeat("tick 0 h 0\n", api.MaxMoves-9))
	says(t, s, "settle 0 7", "up 3\n")
	says(t, s, "settle 0 7", "up 0\n")
	says(t, s, "counts", fmt.Sprintf("moves %d frames 6\n", api.MaxMoves))
	// Ends that never come together use all moves up.
	s = behind(apart)
	refuses(t, s, "settle 0 4294967295", api.ErrFull)
	says(t, s, "counts", fmt.Sprintf("moves %d frames %d\n", api.MaxMoves, api.MaxMoves/2))
	// And a new world has them all again.
	says(t, s, "begin", "ok\n")
	says(t, s, "settle 0 7", "not 7\n")
	says(t, s, "counts", "moves 14 frames 7\n")
}

// The operator may be the one for whom no move is left.
func TestSettleWithoutAMoveForTheOperator(t *testing.T) {
	s := behind(up + strings.Repeat("tick 0 h 0\n", api.MaxMoves-9-4) + "tick 0 h 10\n")
	refuses(t, s, "settle 0 7", api.ErrFull)
	says(t, s, "counts", fmt.Sprintf("moves %d frames 8\n", api.MaxMoves))
	says(t, s, "see 0", "h:running,1,1,1,0,100,ask,off d:running,1,1,1,0,0,on:0000\n")
}
