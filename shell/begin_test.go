package shell_test

import (
	"fmt"
	"strings"
	"testing"

	"parapet/api"
	"parapet/shell"
)

// sets: so many hosts and devices, each with a code of its own.
func sets(hosts, devices int) string {
	text := ""
	for k := range hosts {
		text += fmt.Sprintf("host %d 1 1 5 9\n", k+1)
	}
	for k := range devices {
		text += fmt.Sprintf("device %d 1 1 5 9\n", k+1)
	}
	return text
}

// refusedMakeUps are what world.New refuses, and how.
var refusedMakeUps = map[string]api.Errno{
	"":                               api.ErrRange,
	"net 9\n":                        api.ErrRange,
	"net 9\n" + sets(1, 0):           api.ErrRange,
	"net 9\n" + sets(0, 1):           api.ErrRange,
	"net 9\n" + sets(1, 2):           api.ErrRange,
	"net 9\n" + sets(8, 7):           api.ErrRange,
	"net 9\n" + sets(9, 9):           api.ErrRange,
	"net 9\n" + sets(9, 8):           api.ErrRange,
	"net 9\n" + sets(8, 9):           api.ErrRange,
	"net 9\n" + sets(10, 10):         api.ErrRange,
	"net 9\n" + sets(100, 9):         api.ErrRange,
	"net 9\n" + sets(300, 300):       api.ErrRange,
	sets(1, 1):                       api.ErrRange,
	"net 0\n" + sets(1, 1):           api.ErrRange,
	"net 9\n" + sets(1, 1) + "net 0": api.ErrRange,
	// The number of the sets is told ahead of them, and they ahead of doubles.
	"net 9\nhost 0 0 0 0 0\n":                                                                api.ErrRange,
	"host 0 0 0 0 0\ndevice 0 0 0 0 0\n":                                                     api.ErrRange,
	"net 9\nhost 0 0 0 0 0\ndevice 0 0 0 0 0\n":                                              api.ErrParam,
	"net 9\nhost 0 2 1 10 100\ndevice 7 2 1 10 100\n":                                        api.ErrParam,
	"net 9\nhost 7 2 1 10 100\ndevice 0 2 1 10 100\n":                                        api.ErrParam,
	"net 9\nhost 7 0 1 10 100\ndevice 7 2 1 10 100\n":                                        api.ErrParam,
	"net 9\nhost 7 9 1 10 100\ndevice 7 2 1 10 100\n":                                        api.ErrParam,
	"net 9\nhost 7 2 0 10 100\ndevice 7 2 1 10 100\n":                                        api.ErrParam,
	"net 9\nhost 7 2 4294967295 10 100\ndevice 7 2 1 10 100\n":                               api.ErrParam,
	"net 9\nhost 7 2 1 0 100\ndevice 7 2 1 10 100\n":                                         api.ErrParam,
	"net 9\nhost 7 2 1 10 100\ndevice 7 2 1 1048577 100\n":                                   api.ErrParam,
	"net 9\nhost 7 2 1 10 100\ndevice 7 2 1 10 1\n":                                          api.ErrParam,
	"net 9\nhost 7 2 1 10 0\ndevice 7 2 1 10 100\n":                                          api.ErrParam,
	"net 9\nhost 7 2 1 10 100\nhost 7 2 1 10 100\ndevice 7 2 1 10 1\ndevice 8 2 1 10 9\n":    api.ErrParam,
	"net 9\nhost 7 2 1 10 100\nhost 7 1 2 1 10\ndevice 7 2 1 10 9\ndevice 8 2 1 10 9\n":      api.ErrTwice,
	"net 9\nhost 7 2 1 10 100\nhost 8 2 1 10 100\ndevice 6 2 1 10 9\ndevice 6 2 1 11 9\n":    api.ErrTwice,
	"net 9\n" + sets(7, 7) + "host 1 1 1 5 9\ndevice 8 1 1 5 9\n":                            api.ErrTwice,
	"net 9\n" + sets(7, 7) + "host 1 1 1 5 9\nhost 1 1 1 5 9\ndevice 8 1 1 5 9\n":            api.ErrRange,
	"net 4294967295\nhost 1 8 8 1048576 4294967295\ndevice 4294967295 1 1 1 2\nnet 1\nnet 0": api.ErrRange,
}

// begin of make-ups that world.New refuses: nothing has begun.
func TestBeginRefused(t *testing.T) {
	for text, e := range refusedMakeUps {
		s := behind(text)
		for range 3 {
			refuses(t, s, "begin", e)
			refuses(t, s, "counts", api.ErrEmpty)
			refuses(t, s, "send 0", api.ErrEmpty)
		}
	}
}

// And where something has, that stays as it was.
func TestBeginRefusedLeavesTheOldOne(t *testing.T) {
	old := seen(behind(talked))
	for more, e := range map[string]api.Errno{
		"net 0\n":                                 api.ErrRange,
		"host 8 2 1 10 100\n":                     api.ErrRange,
		"device 8 2 1 10 100\n":                   api.ErrRange,
		sets(9, 9):                                api.ErrRange,
		"host 8 2 1 10 1\ndevice 8 2 1 10 100\n":  api.ErrParam,
		"host 8 2 1 10 100\ndevice 0 2 1 10 10\n": api.ErrParam,
		"host 7 1 1 1 9\ndevice 8 2 1 10 100\n":   api.ErrTwice,
		"host 8 1 1 1 9\ndevice 7 2 1 10 100\n":   api.ErrTwice,
	} {
		s := behind(talked + more)
		refuses(t, s, "begin", e)
		refuses(t, s, "begin 0", api.ErrMany)
		if now := seen(s); now != old {
			t.Fatalf("P23.1: begin that is refused changes %.300q to %.300q", old, now)
		}
		follows(t, s, `> send 0
send 0 -> 0 sent 8 h:running,1,1,2,0,0,on:cc d:running,1,1,1,0,0,on:aabb
> deliver 0 d 8
deliver 0 d 8 -> 0 sent 9 h:running,1,1,2,0,0,on:cc d:running,1,2,2,0,0,on:aabb
> counts
moves 16 frames 10
`)
	}
}

// What was refused may be begun, once it is made up.
func TestBeginBehindARefusal(t *testing.T) {
	follows(t, shell.New(), `> begin
error 2
> host 7 2 1 10 100
ok
> begin
error 2
> device 7 2 1 10 100
ok
> begin
error 2
> net 1
ok
> send 0
error 205
> begin
ok
> facts
> counts
moves 0 frames 0
> settle 0 7
up 3
`)
}

// begin again: a new world, of the make-up as it is by then.
func TestBeginAgain(t *testing.T) {
	s := behind(talked)
	fresh := seen(behind(begun))
	for range 3 {
		says(t, s, "begin", "ok\n")
		if now := seen(s); now != fresh {
			t.Fatalf("P23.1: begin again: %.300q, not %.300q", now, fresh)
		}
		says(t, s, "settle 0 7", "up 3\n")
		refuses(t, s, "frame 6", api.ErrFrame)
	}
	if got, want := tried(behind(talked+"begin\nsettle 0 7\n")), tried(behind(up)); got != want {
		t.Errorf("P23.1: begin again: %.300q, not %.300q", got, want)
	}
}

// Each beginning has the same make-up: one doesn't take it away.
func TestMakeUpStays(t *testing.T) {
	text := "net 1\n" + sets(8, 8) + strings.Repeat("begin\nsettle 7 7\nreset 7 d 0\nsettle 7 7\nsee 7\n", 3)
	once := "ok\nup 3\nreset 7 d 0 -> 0 h:running,1,0,0,0,0,off d:idle,0,0,0,0,0,off\nnot 7\nh:idle,1,0,0,0,131,off d:done,0,0,0,0,80,off\n"
	comesTo(t, text, strings.Repeat("ok\n", 17)+strings.Repeat(once, 3))
}

// A net's line behind a begin changes the make-up, and not the world that is played.
func TestMakeUpBehindABeginning(t *testing.T) {
	for _, line := range []string{"net 0", "net 1", "net 4294967295", "host 8 2 1 10 100", "device 8 2 1 10 100", "host 7 2 1 10 100", "host 0 0 0 0 0"} {
		s := behind(talked)
		were := seen(s)
		says(t, s, line, "ok\n")
		if now := seen(s); now != were {
			t.Fatalf("P23.1: %q changes what is played: %.300q, then %.300q", line, were, now)
		}
	}
	follows(t, behind("net 1\nhost 7 2 1 10 100\ndevice 7 2 1 10 100\nbegin\n"), `> net 2
ok
> host 8 1 1 1 5
ok
> settle 0 7
up 3
> reset 0 d 0
reset 0 d 0 -> 0 h:running,1,0,0,0,0,off d:idle,0,0,0,0,0,off
> settle 0 7
not 7
> see 1
error 171
> begin
error 2
> counts
moves 31 frames 20
> device 8 1 1 1 5
ok
> see 1
error 171
> begin
ok
> see 1
h:idle,0,0,0,0,0,off d:idle,0,0,0,0,0,off
> settle 0 7
up 3
> reset 0 d 0
reset 0 d 0 -> 0 h:running,1,0,0,0,0,off d:idle,0,0,0,0,0,off
> settle 0 7
up 7
> settle 1 7
up 3
> see 0
h:running,2,0,0,0,0,off d:running,2,0,0,0,0,off
`)
}

// The hosts and the devices stand in the order of their lines, however the lines are mixed; the last net holds.
func TestOrderOfSets(t *testing.T) {
	s := behind("device 1 1 1 5 9\nnet 0\nhost 1 1 1 5 9\nhost 2 2 1 5 9\nnet 7\ndevice 2 2 1 5 9\ndevice 3 3 1 5 9\nhost 3 3 1 5 9\nnet 2\nbegin\n")
	for k := range 3 {
		says(t, s, fmt.Sprintf("settle %d 7", k), "up 3\n")
		says(t, s, fmt.Sprintf("write %d h x%s", k, strings.Repeat("0a", k+1)), fmt.Sprintf("write %d h x%s -> 0 h:running,1,0,0,0,0,off d:running,1,0,0,0,0,off\n", k, strings.Repeat("0a", k+1)))
	}
	refuses(t, s, "see 3", api.ErrConn)
	// The devices the other way round: no two ends belong together.
	s = behind("net 9\nhost 1 1 1 5 9\nhost 2 1 1 5 9\ndevice 2 1 1 5 9\ndevice 1 1 1 5 9\nbegin\n")
	says(t, s, "settle 0 7", "not 7\n")
	says(t, s, "deliver 1 d 0", "deliver 1 d 0 -> 0 sent 7 h:idle,0,0,0,0,0,off d:offered,1,0,0,0,0,off\n")
}

// A make-up that has become too great stays so, however far it grows.
func TestGreatMakeUp(t *testing.T) {
	s := behind("net 9\n" + sets(8, 8))
	says(t, s, "begin", "ok\n")
	for range 50000 {
		says(t, s, "host 99 1 1 5 9", "ok\n")
	}
	refuses(t, s, "begin", api.ErrRange)
	for range 50000 {
		says(t, s, "device 99 1 1 5 9", "ok\n")
	}
	refuses(t, s, "begin", api.ErrRange)
	says(t, s, "settle 7 7", "up 3\n")
}
