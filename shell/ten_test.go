package shell_test

import (
	"fmt"
	"testing"

	"parapet/shell"
)

// The ten examples of the whole, in the document's words.

func TestUpAndTalk(t *testing.T) {
	follows(t, behind(begun), `> settle 0 7
up 3
> see 0
h:running,1,0,0,0,0,off d:running,1,0,0,0,0,off
> write 0 h xaabb
write 0 h xaabb -> 0 h:running,1,0,0,0,0,off d:running,1,0,0,0,0,off
> write 0 d xcc
write 0 d xcc -> 0 h:running,1,0,0,0,0,off d:running,1,0,0,0,0,off
> send 0
send 0 -> 0 sent 6 h:running,1,0,1,0,0,off d:running,1,0,0,0,0,off
> deliver 0 d 6
deliver 0 d 6 -> 0 sent 7 h:running,1,0,1,0,0,off d:running,1,1,1,0,0,on:aabb
> deliver 0 h 7
deliver 0 h 7 -> 0 h:running,1,1,1,0,0,on:cc d:running,1,1,1,0,0,on:aabb
> see 0
h:running,1,1,1,0,0,on:cc d:running,1,1,1,0,0,on:aabb
`)
}

func TestWatchdogAndTheWayBack(t *testing.T) {
	follows(t, behind(talked), `> tick 0 d 10
tick 0 d 10 -> 0 h:running,1,1,1,0,0,on:cc d:running,1,1,1,10,100,off
> ack 0 d
ack 0 d -> 110 h:running,1,1,1,0,0,on:cc d:running,1,1,1,10,100,off
> send 0
send 0 -> 0 sent 8 h:running,1,1,2,0,0,on:cc d:running,1,1,1,10,100,off
> deliver 0 d 8
deliver 0 d 8 -> 0 sent 9 h:running,1,1,2,0,0,on:cc d:running,1,2,2,0,100,ask,off
> deliver 0 h 9
deliver 0 h 9 -> 0 h:running,1,2,2,0,0,on:cc d:running,1,2,2,0,100,ask,off
> ack 0 d
ack 0 d -> 0 h:running,1,2,2,0,0,on:cc d:running,1,2,2,0,0,off
> send 0
send 0 -> 0 sent 10 h:running,1,2,3,0,0,on:cc d:running,1,2,2,0,0,off
> deliver 0 d 10
deliver 0 d 10 -> 0 sent 11 h:running,1,2,3,0,0,on:cc d:running,1,3,3,0,0,on:aabb
> judge
good
`)
}

func TestTheSameFrameAgain(t *testing.T) {
	s := behind(talked)
	for i := range 3 {
		says(t, s, "deliver 0 d 6", fmt.Sprintf("deliver 0 d 6 -> 130 sent %d h:running,1,1,1,0,0,on:cc d:running,1,1,1,0,0,on:aabb\n", 8+i))
	}
	says(t, s, "deliver 0 d 6", "deliver 0 d 6 -> 130 sent 11 h:running,1,1,1,0,0,on:cc d:idle,0,0,0,0,131,off\n")
}

func TestResets(t *testing.T) {
	follows(t, behind(talked), `> reset 0 h 0
reset 0 h 0 -> 0 h:idle,0,0,0,0,0,off d:running,1,1,1,0,0,on:aabb
> settle 0 7
up 6
> see 0
h:running,2,0,0,0,0,off d:running,2,0,0,0,0,off
`)
	follows(t, behind(talked), `> reset 0 d 0
reset 0 d 0 -> 0 h:running,1,1,1,0,0,on:cc d:idle,0,0,0,0,0,off
> settle 0 7
up 7
> see 0
h:running,2,0,0,0,0,off d:running,2,0,0,0,0,off
`)
}

func TestBurstsAndOtherCodes(t *testing.T) {
	s := behind(talked)
	looks := s.Line("see 0")
	for i := range 8 {
		for at := range 19 * 8 {
			line := fmt.Sprintf("garble 0 %s %d %d %d", []string{"h", "d"}[at%2], i, at, []uint32{1, 3, 5, 0x80000001, 0xffffffff}[at%5])
			got := s.Line(line)
			if want := line + " -> 42 " + looks; at < 19*8-32 && got != want {
				t.Fatalf("P6: %q: %q, not %q", line, got, want)
			}
		}
	}
	s = behind("net 9\nhost 7 2 1 10 100\nhost 8 2 1 10 100\ndevice 7 2 1 10 100\ndevice 8 2 1 10 100\nbegin\n")
	follows(t, s, `> send 1
send 1 -> 0 sent 0 h:idle,0,0,0,0,0,off d:idle,0,0,0,0,0,off
> deliver 0 d 0
deliver 0 d 0 -> 44 h:idle,0,0,0,0,0,off d:idle,0,0,0,0,0,off
`)
}

func TestNumbersExhausted(t *testing.T) {
	follows(t, behind("net 9\nhost 7 2 1 10 3\ndevice 7 2 1 10 3\nbegin\nsettle 0 7\n"), `> send 0
send 0 -> 0 sent 6 h:running,1,0,1,0,0,off d:running,1,0,0,0,0,off
> deliver 0 d 6
deliver 0 d 6 -> 0 sent 7 h:running,1,0,1,0,0,off d:running,1,1,1,0,0,on:0000
> deliver 0 h 7
deliver 0 h 7 -> 0 h:running,1,1,1,0,0,on:00 d:running,1,1,1,0,0,on:0000
> send 0
send 0 -> 0 sent 8 h:running,1,1,2,0,0,on:00 d:running,1,1,1,0,0,on:0000
> deliver 0 d 8
deliver 0 d 8 -> 0 sent 9 h:running,1,1,2,0,0,on:00 d:running,1,2,2,0,0,on:0000
> deliver 0 h 9
deliver 0 h 9 -> 0 h:running,1,2,2,0,0,on:00 d:running,1,2,2,0,0,on:0000
> send 0
send 0 -> 0 sent 10 h:done,1,2,3,0,80,off d:running,1,2,2,0,0,on:0000
> deliver 0 d 10
deliver 0 d 10 -> 0 sent 11 h:done,1,2,3,0,80,off d:done,1,3,3,0,80,off
> send 0
send 0 -> 132 h:done,1,2,3,0,80,off d:done,1,3,3,0,80,off
> settle 0 7
not 7
> judge
good
`)
}

func TestPowerAndSessions(t *testing.T) {
	follows(t, behind(begun), `> cut 0 2
cut 0 2 -> 0 h:idle,0,0,0,0,0,off d:idle,0,0,0,0,0,off
> send 0
send 0 -> 0 sent 0 h:idle,0,0,0,0,0,off d:idle,0,0,0,0,0,off
> deliver 0 d 0
deliver 0 d 0 -> 70 h:idle,0,0,0,0,0,off d:down,0,0,0,0,0,off
> reset 0 d 0
reset 0 d 0 -> 0 h:idle,0,0,0,0,0,off d:idle,0,0,0,0,0,off
> settle 0 7
up 3
> see 0
h:running,1,0,0,0,0,off d:running,1,0,0,0,0,off
`)
	follows(t, shell.New(), `> net 1
ok
> host 7 2 1 10 100
ok
> device 7 2 1 10 100
ok
> begin
ok
> settle 0 7
up 3
> reset 0 d 0
reset 0 d 0 -> 0 h:running,1,0,0,0,0,off d:idle,0,0,0,0,0,off
> settle 0 7
not 7
> see 0
h:idle,1,0,0,0,131,off d:done,0,0,0,0,80,off
> judge
good
`)
}
