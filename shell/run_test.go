package shell_test

import (
	"strings"
	"sync"
	"testing"

	"parapet/api"
	"parapet/shell"
)

// mixed is a text with lines of all kinds, right ones and wrong ones.
const mixed = madeUp + `see 0
begin # now
# nothing

see 0
see 1
hop
settle 0 2
counts
settle 0 7
write 0 h xaabb
write 0 d xcc hold
send 0
deliver 0 d 6
deliver 0 h 7
deliver 0 h 8
tick 0 d 10
ack 0 d
net 05
host 8 1 1 1 5
begin
judge
facts
frame 6
frame 8
memory 0
device 8 1 1 1 5
begin
settle 1 7
see 0
see 1
judge 1
counts
`

// Run answers what Line answers of each line, one behind the other.
func TestRunIsLineByLine(t *testing.T) {
	for _, text := range []string{"", "\n", "\n\n\n", "hop", "hop\n", "\nhop", "hop\nhop", "# x\n \n", madeUp, begun, talked, mixed, mixed + "see 0", strings.ReplaceAll(mixed, "\n", "\r\n"), strings.Repeat(mixed, 3)} {
		s, want := shell.New(), ""
		for _, line := range strings.Split(text, "\n") {
			want += s.Line(line)
		}
		comesTo(t, text, want)
		if got := shell.New().Run(text); got != want {
			t.Fatalf("P23.1: Run of a new shell: %.300q, not %.300q", got, want)
		}
		if got := new(shell.Shell).Run(text); got != want {
			t.Fatalf("P23.1: Run of a zero shell: %.300q, not %.300q", got, want)
		}
	}
}

// The ends of a text's lines.
func TestLinesOfAText(t *testing.T) {
	for text, want := range map[string]string{
		"":                      "",
		"\n":                    "",
		"\n\n":                  "",
		"net 9":                 "ok\n",
		"net 9\n":               "ok\n",
		"\nnet 9":               "ok\n",
		"net 9\nnet 9":          "ok\nok\n",
		"net 9\n\n \nnet 9\n\n": "ok\nok\n",
		"net 9\nhop":            "ok\nerror 200\n",
		"net 9\r\nhop\r\n":      "ok\nerror 200\n",
		"net 9\rhop":            "error 201\n",
		"net 9 # \nhop # \n#":   "ok\nerror 200\n",
		"net\n9":                "error 202\nerror 200\n",
		"hop\x00\nnet 9":        "error 200\nok\n",
		"net 9\u2028net 9":      "error 201\n",
		"net 9\u0085":           "error 203\n",
		"net 9\v\nnet 9\f":      "error 203\nerror 203\n",
	} {
		comesTo(t, text, want)
	}
}

// Texts one behind the other answer as the whole does.
func TestTextsOneBehindTheOther(t *testing.T) {
	lines := strings.SplitAfter(mixed, "\n")
	want := shell.Run(mixed)
	for i := range lines {
		for j := i; j < len(lines); j++ {
			s := shell.New()
			got := s.Run(strings.Join(lines[:i], ""))
			got += s.Run(strings.Join(lines[i:j], ""))
			got += s.Run(strings.Join(lines[j:], ""))
			if got != want {
				t.Fatalf("P23.1: three texts, cut at %d and %d: %.300q, not %.300q", i, j, got, want)
			}
		}
	}
	s := shell.New()
	got := ""
	for _, line := range lines {
		got += s.Run(line)
	}
	if got != want {
		t.Errorf("P23.1: a text a line: %.300q, not %.300q", got, want)
	}
}

// A text may be longer than a script's, with any number of lines.
func TestLongText(t *testing.T) {
	text := madeUp + strings.Repeat("# a remark\n", api.MaxText/8) + strings.Repeat("\n", api.MaxText) + "begin\n" + strings.Repeat("counts\n", 1000)
	comesTo(t, text, "ok\nok\nok\nok\n"+strings.Repeat("moves 0 frames 0\n", 1000))
}

// other is a text that has little in common with the mixed one.
const other = "net 3\nhost 5 1 1 3 4\nbegin\ndevice 5 1 1 3 4\nbegin\nsettle 0 7\nreset 0 h 0\nsettle 0 7\nsee 0\ncut 0 1\nreset 0 d 3\nmemory 0\nfacts\ncounts\njudge\nbegin\nsend 0\ndeliver 0 d 0\nframe 1\n"

// Two shells in turns know nothing of each other.
func TestTwoShellsInTurns(t *testing.T) {
	texts := []string{mixed, other}
	for _, step := range []int{1, 2, 5} {
		shells, answers := []*shell.Shell{shell.New(), shell.New()}, []string{"", ""}
		rest := [][]string{strings.Split(texts[0], "\n"), strings.Split(texts[1], "\n")}
		for len(rest[0])+len(rest[1]) > 0 {
			for i := range rest {
				n := min(len(rest[i]), step+i)
				answers[i] += shells[i].Run(strings.Join(rest[i][:n], "\n"))
				rest[i] = rest[i][n:]
			}
		}
		for i, text := range texts {
			if want := shell.Run(text); answers[i] != want {
				t.Fatalf("R8: in turns %.300q, alone %.300q", answers[i], want)
			}
		}
	}
}

// R7: a nil shell answers each line as a new one, and keeps nothing from line to line.
func TestNilShell(t *testing.T) {
	var none *shell.Shell
	follows(t, none, `> net 9
ok
> host 7 2 1 10 100
ok
> device 7 2 1 10 100
ok
> begin
error 2
> see 0
error 205
> see x
error 203
> see
error 202
> send 0
error 205
> send
error 202
> hop
error 200
> judge 0
error 201
> # nothing
`)
	refuses(t, none, strings.Repeat(" ", api.MaxLine+1), api.ErrLines)
	says(t, none, "", "")
	if got, want := none.Run(begun+"see 0\n\ncounts"), "ok\nok\nok\nerror 2\nerror 205\nerror 205\n"; got != want {
		t.Errorf("R7: Run of nil: %q, not %q", got, want)
	}
	for _, text := range []string{"", mixed, other, strings.ReplaceAll(mixed, "0", "x")} {
		want := ""
		for _, line := range strings.Split(text, "\n") {
			alone := shell.New().Line(line)
			if got := none.Line(line); got != alone {
				t.Fatalf("R7: Line(%q) of nil: %q, of a new one %q", line, got, alone)
			}
			want += alone
		}
		if got := none.Run(text); got != want {
			t.Fatalf("R7: Run of nil: %.300q, not %.300q", got, want)
		}
	}
}

// R8: the same text many times, and at one time.
func TestTheSameTextAgain(t *testing.T) {
	texts := []string{mixed, other, talked}
	var want []string
	for _, text := range texts {
		want = append(want, shell.Run(text))
	}
	var all sync.WaitGroup
	for range 8 {
		all.Go(func() {
			for k := range 300 {
				i := k % len(texts)
				if got := shell.Run(texts[i]); got != want[i] {
					t.Errorf("R8: Run: %.300q, then %.300q", want[i], got)
					return
				}
			}
		})
	}
	all.Wait()
}

// What was begun ahead of it doesn't show in a world that is begun anew.
func TestTheSameTextInOneShell(t *testing.T) {
	s := behind(madeUp)
	text := "begin\nsettle 0 7\nwrite 0 h x0102\nsend 0\ndeliver 0 d 6\ndeliver 0 h 7\nsee 0\nfacts\nframe 6\nmemory 0\ncounts\njudge\n"
	want := s.Run(text)
	for range 100 {
		if got := s.Run(text); got != want {
			t.Fatalf("R8: begun again: %.300q, not %.300q", got, want)
		}
	}
}
