package shell_test

import (
	"bytes"
	"fmt"
	"strings"
	"testing"

	"parapet/api"
	"parapet/param"
	"parapet/shell"
	"parapet/unit"
)

// history is a script behind each of whose moves stands what comes of it, as the document says: its examples 1 to 4.
const history = `send 0 -> 0 sent 0 h:idle,0,0,0,0,0,off d:idle,0,0,0,0,0,off
deliver 0 d 0 -> 0 sent 1 h:idle,0,0,0,0,0,off d:offered,1,0,0,0,0,off
deliver 0 h 1 -> 0 h:offered,1,0,0,0,0,off d:offered,1,0,0,0,0,off
send 0 -> 0 sent 2 h:offered,1,0,0,0,0,off d:offered,1,0,0,0,0,off
deliver 0 d 2 -> 0 sent 3 h:offered,1,0,0,0,0,off d:agreed,1,0,0,0,0,off
deliver 0 h 3 -> 0 h:agreed,1,0,0,0,0,off d:agreed,1,0,0,0,0,off
send 0 -> 0 sent 4 h:agreed,1,0,0,0,0,off d:agreed,1,0,0,0,0,off
deliver 0 d 4 -> 0 sent 5 h:agreed,1,0,0,0,0,off d:running,1,0,0,0,0,off
deliver 0 h 5 -> 0 h:running,1,0,0,0,0,off d:running,1,0,0,0,0,off
write 0 h xaabb -> 0 h:running,1,0,0,0,0,off d:running,1,0,0,0,0,off
write 0 d xcc -> 0 h:running,1,0,0,0,0,off d:running,1,0,0,0,0,off
write 0 d xccdd -> 45 h:running,1,0,0,0,0,off d:running,1,0,0,0,0,off
send 0 -> 0 sent 6 h:running,1,0,1,0,0,off d:running,1,0,0,0,0,off
deliver 0 d 6 -> 0 sent 7 h:running,1,0,1,0,0,off d:running,1,1,1,0,0,on:aabb
deliver 0 h 7 -> 0 h:running,1,1,1,0,0,on:cc d:running,1,1,1,0,0,on:aabb
tick 0 d 10 -> 0 h:running,1,1,1,0,0,on:cc d:running,1,1,1,10,100,off
ack 0 d -> 110 h:running,1,1,1,0,0,on:cc d:running,1,1,1,10,100,off
deliver 0 d 6 -> 130 sent 8 h:running,1,1,1,0,0,on:cc d:running,1,1,1,10,100,off
garble 0 d 6 3 1 -> 42 h:running,1,1,1,0,0,on:cc d:running,1,1,1,10,100,off
send 0 -> 0 sent 9 h:running,1,1,2,0,0,on:cc d:running,1,1,1,10,100,off
deliver 0 d 9 -> 0 sent 10 h:running,1,1,2,0,0,on:cc d:running,1,2,2,0,100,ask,off
ack 0 d -> 0 h:running,1,1,2,0,0,on:cc d:running,1,2,2,0,0,off
write 0 h x0102 hold -> 0 h:running,1,1,2,0,0,on:cc d:running,1,2,2,0,0,off
cut 0 0 -> 0 h:running,1,1,2,0,0,on:cc d:running,1,2,2,0,0,off
reset 0 h 0 -> 0 h:idle,0,0,0,0,0,off d:running,1,2,2,0,0,off
`

// A move's line: the row's line; and behind each see and counts tell the same.
func TestMoves(t *testing.T) {
	s := behind(begun)
	moves, frames := 0, 0
	for want := range strings.Lines(history) {
		line, code, _ := strings.Cut(want, " -> ")
		says(t, s, line, want)
		moves++
		if strings.Contains(code, "sent") {
			frames++
		}
		says(t, s, "see 0", want[strings.Index(want, "h:"):])
		says(t, s, "counts", fmt.Sprintf("moves %d frames %d\n", moves, frames))
		says(t, s, "judge", "good\n")
	}
}

// A move that the world refuses: the errors of Play, and nothing is counted.
func TestMovesRefused(t *testing.T) {
	lines := map[string]api.Errno{
		"send 1":                             api.ErrConn,
		"send 4294967295":                    api.ErrConn,
		"write 1 h xaabb":                    api.ErrConn,
		"deliver 1 d 0":                      api.ErrConn,
		"deliver 1 d 8":                      api.ErrConn,
		"deliver 0 d 8":                      api.ErrFrame,
		"deliver 0 h 8":                      api.ErrFrame,
		"deliver 0 d 4294967295":             api.ErrFrame,
		"garble 1 d 0 0 1":                   api.ErrConn,
		"garble 0 d 8 0 0":                   api.ErrFrame,
		"garble 0 d 0 0 0":                   api.ErrBurst,
		"garble 0 h 6 168 1":                 api.ErrBurst,
		"garble 0 h 6 4294967295 4294967295": api.ErrBurst,
		"tick 1 d 1":                         api.ErrConn,
		"tick 0 d 1048577":                   api.ErrRange,
		"tick 0 h 4294967295":                api.ErrRange,
		"ack 1 h":                            api.ErrConn,
		"reset 1 h 0":                        api.ErrConn,
		"reset 0 h 1":                        api.ErrRange,
		"reset 0 h 4294967295":               api.ErrRange,
		"cut 1 0":                            api.ErrConn,
	}
	s := behind(talked)
	for line, e := range lines {
		refuses(t, s, line, e)
	}
	if got, want := tried(s), tried(behind(talked)); got != want {
		t.Errorf("R4: moves that are refused change %.400q to %.400q", want, got)
	}
}

// The world takes so many moves, and no more; what looks at it still does.
func TestFullWorld(t *testing.T) {
	s := behind(begun)
	for i := range api.MaxMoves {
		if got := s.Line("send 0"); !strings.HasPrefix(got, "send 0 -> 0 sent "+fmt.Sprint(i)+" h:") {
			t.Fatalf("P23.1: the send %d: %q", i, got)
		}
	}
	were := seen(s)
	for _, line := range []string{"send 0", "send 1", "tick 0 h 0", "deliver 0 d 4096", "reset 0 h 1", "settle 0 1"} {
		refuses(t, s, line, api.ErrFull)
	}
	if now := seen(s); now != were {
		t.Errorf("R4: moves of a full world change %.300q to %.300q", were, now)
	}
	follows(t, s, `> counts
moves 4096 frames 4096
> settle 0 0
not 0
> settle 1 1
error 171
> frame 4096
error 151
> judge
good
> begin
ok
> counts
moves 0 frames 0
`)
}

func TestSee(t *testing.T) {
	s := behind("net 9\nhost 7 2 1 10 100\nhost 8 1 8 3 9\ndevice 7 2 1 10 100\ndevice 8 1 8 3 9\nbegin\n")
	follows(t, s, `> see 0
h:idle,0,0,0,0,0,off d:idle,0,0,0,0,0,off
> see 1
h:idle,0,0,0,0,0,off d:idle,0,0,0,0,0,off
> see 2
error 171
> see 4294967295
error 171
> settle 1 7
up 3
> see 0
h:idle,0,0,0,0,0,off d:idle,0,0,0,0,0,off
> see 1
h:running,1,0,0,0,0,off d:running,1,0,0,0,0,off
> write 1 h x0f
write 1 h x0f -> 0 h:running,1,0,0,0,0,off d:running,1,0,0,0,0,off
> write 1 d x0001020304fefdfc
write 1 d x0001020304fefdfc -> 0 h:running,1,0,0,0,0,off d:running,1,0,0,0,0,off
> send 1
send 1 -> 0 sent 6 h:running,1,0,1,0,0,off d:running,1,0,0,0,0,off
> deliver 1 d 6
deliver 1 d 6 -> 0 sent 7 h:running,1,0,1,0,0,off d:running,1,1,1,0,0,on:0f
> deliver 1 h 7
deliver 1 h 7 -> 0 h:running,1,1,1,0,0,on:0001020304fefdfc d:running,1,1,1,0,0,on:0f
> tick 1 h 2
tick 1 h 2 -> 0 h:running,1,1,1,2,0,on:0001020304fefdfc d:running,1,1,1,0,0,on:0f
> see 1
h:running,1,1,1,2,0,on:0001020304fefdfc d:running,1,1,1,0,0,on:0f
> tick 1 h 1
tick 1 h 1 -> 0 h:running,1,1,1,3,100,off d:running,1,1,1,0,0,on:0f
> see 1
h:running,1,1,1,3,100,off d:running,1,1,1,0,0,on:0f
> see 2
error 171
`)
}

// Eight connections are all seen, and the ninth isn't there.
func TestSeeAll(t *testing.T) {
	text := "net 9\n"
	for k := range api.MaxConns {
		text += fmt.Sprintf("host %d 1 1 5 9\ndevice %d 1 1 5 9\n", k+1, k+1)
	}
	s := behind(text + "begin\n")
	for k := range api.MaxConns {
		says(t, s, fmt.Sprintf("tick %d d %d", k, k%5), fmt.Sprintf("tick %d d %d -> 0 h:idle,0,0,0,0,0,off d:idle,0,0,0,%d,0,off\n", k, k%5, k%5))
	}
	for k := range api.MaxConns {
		says(t, s, fmt.Sprint("see ", k), fmt.Sprintf("h:idle,0,0,0,0,0,off d:idle,0,0,0,%d,0,off\n", k%5))
		says(t, s, fmt.Sprint("memory ", k), "memory x"+strings.Repeat("00", 16)+"\n")
	}
	refuses(t, s, "see 8", api.ErrConn)
	refuses(t, s, "memory 8", api.ErrConn)
}

func TestFacts(t *testing.T) {
	s := behind(begun)
	says(t, s, "facts", "")
	follows(t, s, `> send 0
send 0 -> 0 sent 0 h:idle,0,0,0,0,0,off d:idle,0,0,0,0,0,off
> facts
out 0 h off 0 x00
out 0 d off 0 x0000
> deliver 0 d 0
deliver 0 d 0 -> 0 sent 1 h:idle,0,0,0,0,0,off d:offered,1,0,0,0,0,off
> facts
out 0 h off 0 x00
out 0 d off 0 x0000
session 0 d 1
out 0 h off 0 x00
out 0 d off 0 x0000
> send 1
error 171
> facts
out 0 h off 0 x00
out 0 d off 0 x0000
session 0 d 1
out 0 h off 0 x00
out 0 d off 0 x0000
`)
	says(t, s, "begin", "ok\n")
	says(t, s, "facts", "")
	s = behind(talked + "tick 0 d 10\nsend 0\ndeliver 0 d 8\nack 0 d\nreset 0 h 0\n")
	var told []string
	for line := range strings.Lines(s.Line("facts")) {
		if !strings.HasPrefix(line, "out ") {
			told = append(told, line)
		}
	}
	if got, want := strings.Join(told, ""), `session 0 d 1
fresh 0 h
fresh 0 d
fresh 0 h
fresh 0 d
fresh 0 h
sent 0 h 1 1 xaabb
fresh 0 d
taken 0 d 1 1 xaabb
sent 0 d 1 1 xcc
fresh 0 h
taken 0 h 1 1 xcc
tick 0 d 10
sent 0 h 1 2 xaabb
fresh 0 d
taken 0 d 1 2 xaabb
sent 0 d 1 2 xcc
ack 0 d
reset 0 h
`; got != want {
		t.Errorf("P23.1: the facts:\n%snot:\n%s", got, want)
	}
	if all := s.Line("facts"); strings.Count(all, "out 0 h ") != 19 || !strings.HasSuffix(all, "reset 0 h\nout 0 h off 0 x00\nout 0 d off 0 x0000\n") || !strings.Contains(all, "\ntick 0 d 10\nout 0 h on 0 xcc\nout 0 d off 100 x0000\n") {
		t.Errorf("P23.1: the facts:\n%s", all)
	}
}

// sent is the answer that tells a unit's frame.
func sent(t *testing.T, u api.Unit) string {
	t.Helper()
	frame, e := unit.Encode(u)
	if e != api.OK {
		t.Fatalf("Encode(%+v): %d", u, e)
	}
	return fmt.Sprintf("frame x%x\n", frame)
}

func TestFrames(t *testing.T) {
	s := behind(begun)
	refuses(t, s, "frame 0", api.ErrFrame)
	refuses(t, s, "frame 1", api.ErrFrame)
	s = behind(talked)
	signature := param.Bytes(0xf8b45b50)
	for i, u := range []api.Unit{
		{Kind: api.HostParam, Code: 7, Data: signature},
		{Kind: api.DevOffer, Code: 7, Session: 1, Data: signature},
		{Kind: api.HostEcho, Code: 7, Session: 1, Data: signature},
		{Kind: api.DevAgreed, Code: 7, Session: 1},
		{Kind: api.HostStart, Code: 7, Session: 1},
		{Kind: api.DevStarted, Code: 7, Session: 1},
		{Kind: api.HostData, Code: 7, Session: 1, Number: 1, Flags: api.FlagPassive, Data: []byte{0xaa, 0xbb}},
		{Kind: api.DevData, Code: 7, Session: 1, Number: 1, Data: []byte{0xcc}},
	} {
		says(t, s, fmt.Sprint("frame ", i), sent(t, u))
	}
	if got := s.Line("frame 0"); !strings.HasPrefix(got, "frame x01000000070000000000000000"+"0004"+"f8b45b50") || len(got) != len("frame x\n")+2*23 {
		t.Errorf("P23.1: frame 0: %q", got)
	}
	for _, line := range []string{"frame 8", "frame 9", "frame 4096", "frame 4294967295"} {
		refuses(t, s, line, api.ErrFrame)
	}
	s.Line("send 0")
	if got := s.Line("frame 8"); !strings.HasPrefix(got, "frame x0400000007"+"00000001"+"00000002") {
		t.Errorf("P23.1: frame 8: %q", got)
	}
	refuses(t, s, "frame 9", api.ErrFrame)
}

func TestMemory(t *testing.T) {
	zeros := bytes.Repeat([]byte("0"), 32)
	s := behind("net 300\nhost 7 2 1 10 100\nhost 8 2 1 10 100\ndevice 7 2 1 10 100\ndevice 8 2 1 10 100\nbegin\n")
	says(t, s, "memory 0", "memory x"+string(zeros)+"\n")
	says(t, s, "memory 1", "memory x"+string(zeros)+"\n")
	refuses(t, s, "memory 2", api.ErrConn)
	refuses(t, s, "memory 4294967295", api.ErrConn)
	follows(t, s, `> settle 1 7
up 3
> memory 0
memory x00000000000000000000000000000000
> memory 1
memory xa5000000010000000000000000000000
> reset 1 d 0
reset 1 d 0 -> 0 h:running,1,0,0,0,0,off d:idle,0,0,0,0,0,off
> memory 1
memory xa500000001a500000001000000000000
> settle 1 7
up 7
> memory 1
memory xa500000002a500000001000000000000
> memory 2
error 171
`)
	// A byte of each kind of digits: 0xab sessions and more.
	for range 0xab - 2 {
		s.Run("reset 1 d 0\nsettle 1 7\n")
	}
	if got := s.Line("memory 1"); !strings.Contains(got, "a5000000ab") {
		t.Errorf("P23.1: memory 1: %q, %q", got, s.Line("see 1"))
	}
}

// Where the power goes, the memory shows how far the write came.
func TestMemoryBehindACut(t *testing.T) {
	follows(t, behind(begun), `> cut 0 2
cut 0 2 -> 0 h:idle,0,0,0,0,0,off d:idle,0,0,0,0,0,off
> send 0
send 0 -> 0 sent 0 h:idle,0,0,0,0,0,off d:idle,0,0,0,0,0,off
> deliver 0 d 0
deliver 0 d 0 -> 70 h:idle,0,0,0,0,0,off d:down,0,0,0,0,0,off
> memory 0
memory x00000000000000000000000000000000
> facts
out 0 h off 0 x00
out 0 d off 0 x0000
out 0 h off 0 x00
out 0 d off 0 x0000
reset 0 d
out 0 h off 0 x00
out 0 d off 0 x0000
> judge
good
> reset 0 d 0
reset 0 d 0 -> 0 h:idle,0,0,0,0,0,off d:idle,0,0,0,0,0,off
> settle 0 7
up 3
> see 0
h:running,1,0,0,0,0,off d:running,1,0,0,0,0,off
`)
}

// What is judged is what is played, whatever the make-up is by then.
func TestJudge(t *testing.T) {
	s := behind(begun)
	says(t, s, "judge", "good\n")
	for line := range strings.Lines(history) {
		move, _, _ := strings.Cut(line, " -> ")
		s.Line(move)
		says(t, s, "judge", "good\n")
	}
	s = behind("net 9\nhost 7 1 1 20 9\ndevice 7 1 1 20 9\nhost 8 1 1 2 9\ndevice 8 1 1 2 9\nbegin\nhost 9 1 1 1 9\nnet 0\nsettle 0 7\ntick 0 h 19\ntick 0 d 19\nsettle 1 7\ntick 1 h 2\ntick 1 d 3\n")
	says(t, s, "judge", "good\n")
}

func TestCounts(t *testing.T) {
	follows(t, behind(begun), `> counts
moves 0 frames 0
> tick 0 h 0
tick 0 h 0 -> 0 h:idle,0,0,0,0,0,off d:idle,0,0,0,0,0,off
> counts
moves 1 frames 0
> send 0
send 0 -> 0 sent 0 h:idle,0,0,0,0,0,off d:idle,0,0,0,0,0,off
> counts
moves 2 frames 1
> send 3
error 171
> hop
error 200
> net 8
ok
> counts
moves 2 frames 1
> settle 0 7
up 3
> counts
moves 11 frames 7
> begin
ok
> counts
moves 0 frames 0
`)
}

// Looking changes nothing, however often it is done.
func TestLooking(t *testing.T) {
	s := behind(talked)
	were := seen(s)
	for range 20 {
		if now := seen(s); now != were {
			t.Fatalf("P23.1: looking changes %.300q to %.300q", were, now)
		}
	}
	if got, want := tried(s), tried(behind(talked)); got != want {
		t.Errorf("P23.1: looking changes %.300q to %.300q", want, got)
	}
	// Nor while nothing has begun.
	s = shell.New()
	seen(s)
	if got, want := s.Run(talked), shell.Run(talked); got != want {
		t.Errorf("P23.1: looking ahead of a beginning: %q, not %q", got, want)
	}
}
