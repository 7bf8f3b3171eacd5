package script_test

import (
	"strings"
	"testing"

	"parapet/api"
	"parapet/script"
)

// A move's line, cut and read, is the move; what its kind doesn't use is zero.
func TestMoveThereAndBack(t *testing.T) {
	c := &chance{at: 9}
	for range 20000 {
		m := c.move()
		line, e := script.Move(c.messed(m))
		if e != api.OK {
			t.Fatalf("P20.1: Move(%+v): %d", m, e)
		}
		if back, e := script.Read(script.Words(line)); !sameMove(back, m) || e != api.OK {
			t.Fatalf("P20.5: %+v, as %q: %+v, %d", m, line, back, e)
		}
	}
}

// Where Read takes words, Move writes them again, one blank between two.
func TestWordsThereAndBack(t *testing.T) {
	c := &chance{at: 10}
	taken := 0
	for range 20000 {
		words := script.Words(c.anyLine(30))
		m, e := script.Read(words)
		if e != api.OK {
			continue
		}
		taken++
		if line, e := script.Move(m); line != strings.Join(words, " ") || e != api.OK {
			t.Fatalf("P20.5: %q is read, and written as %q, %d", words, line, e)
		}
	}
	if taken < 2000 {
		t.Errorf("only %d lines are taken", taken)
	}
}

// Parse of what Print answers is the net and the moves.
func TestPrintThereAndBack(t *testing.T) {
	c := &chance{at: 11}
	for range 1500 {
		n, moves := c.net(), c.moves(c.below(30))
		var messed []api.Move
		for _, m := range moves {
			messed = append(messed, c.messed(m))
		}
		text, e := script.Print(n, messed)
		if e != api.OK {
			t.Fatalf("P20.2: Print(%+v, %+v): %d", n, messed, e)
		}
		if got := parse(text); !got.same(parsed{net: n, moves: moves}) {
			t.Fatalf("P20.5: %+v and %+v, as %q: %+v", n, moves, text, got)
		}
		// What isn't used left no mark.
		if plain, e := script.Print(n, moves); plain != text || e != api.OK {
			t.Fatalf("P20.5: %q, and without what isn't used %q, %d", text, plain, e)
		}
	}
}

// Where Parse takes a text and Print what it answers, Parse of that is the same.
func TestTextThereAndBack(t *testing.T) {
	c := &chance{at: 12}
	printed, refused := 0, 0
	for range 10000 {
		text := ""
		for range c.below(4) {
			text += one(c, []string{"net 3", "host 7 2 1 10 100", "device 9 1 8 3 4294967295", "device 1 8 8 1048576 2", "host 0 1 1 1 2", "#", "  net\t0 # none"}) + "\n"
		}
		for range c.below(8) {
			text += c.anyLine(1) + one(c, []string{"\n", "\n\n", "#\n", "\r\n"})
		}
		first := parse(text)
		if first.e != api.OK {
			continue
		}
		again, e := script.Print(first.net, first.moves)
		if e != api.OK {
			refused++
			if e != api.ErrParam || again != "" {
				t.Fatalf("P20.2: Print of what Parse(%q) answers: %q, %d", text, again, e)
			}
			continue
		}
		printed++
		if second := parse(again); !second.same(first) {
			t.Fatalf("P20.5: %q is %+v, and its print %q is %+v", text, first, again, second)
		}
		if third, e := script.Print(first.net, first.moves); third != again || e != api.OK {
			t.Fatalf("R8: Print of one net and script: %q, then %q, %d", again, third, e)
		}
	}
	if printed < 1000 || refused < 100 {
		t.Errorf("%d texts are printed again, %d refused: too few to tell much", printed, refused)
	}
}

// What Print answers has one form: cut by hand it is the lines that the chapter names.
func TestPrintedLines(t *testing.T) {
	c := &chance{at: 13}
	for range 500 {
		n, moves := c.net(), c.moves(c.below(12))
		text, _ := script.Print(n, moves)
		lines := strings.SplitAfter(text, "\n")
		if len(lines) != 2+len(n.Hosts)+len(n.Devices)+len(moves) || lines[len(lines)-1] != "" {
			t.Fatalf("P20.2: of %d hosts, %d devices, %d moves: %q", len(n.Hosts), len(n.Devices), len(moves), text)
		}
		at := 1
		for _, p := range n.Hosts {
			if lines[at] != "host "+script.Param(p)+"\n" {
				t.Fatalf("P20.2: %q of %+v", lines[at], p)
			}
			at++
		}
		for _, p := range n.Devices {
			if lines[at] != "device "+script.Param(p)+"\n" {
				t.Fatalf("P20.2: %q of %+v", lines[at], p)
			}
			at++
		}
		for _, m := range moves {
			if line, e := script.Move(m); lines[at] != line+"\n" || e != api.OK {
				t.Fatalf("P20.2: %q of %+v", lines[at], m)
			}
			at++
		}
	}
}
