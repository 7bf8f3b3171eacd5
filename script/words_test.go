package script_test

import (
	"slices"
	"strings"
	"testing"

	"parapet/script"
)

func TestWords(t *testing.T) {
	for _, v := range []struct {
		line string
		want []string
	}{
		{"", nil},
		{" ", nil},
		{" \t\r \t\r", nil},
		{"a", []string{"a"}},
		{"tick 0 h 5", []string{"tick", "0", "h", "5"}},
		{"  tick\t0\rh \t\r 5  ", []string{"tick", "0", "h", "5"}},
		{"send 0\r", []string{"send", "0"}},
		{"#", nil},
		{"# all of it", nil},
		{"  # all of it", nil},
		{"send 0 # now", []string{"send", "0"}},
		{"send 0# now", []string{"send", "0"}},
		{"send#0 1", []string{"send"}},
		{"a # b # c", []string{"a"}},
		{"a## b", []string{"a"}},
		// Other control bytes, an end of a line among them, are bytes of a word.
		{"a\nb", []string{"a\nb"}},
		{"\n", []string{"\n"}},
		{"a\x00b \x01", []string{"a\x00b", "\x01"}},
		{"a\vb\fc \x1f \x7f", []string{"a\vb\fc", "\x1f", "\x7f"}},
		// So are bytes above 7f, whether they are characters or not.
		{"a\x80 \xff\xfe", []string{"a\x80", "\xff\xfe"}},
		{"a\u00a0b \u0085 \u2003\u3000", []string{"a\u00a0b", "\u0085", "\u2003\u3000"}},
		{"\xe2\x80 \x80", []string{"\xe2\x80", "\x80"}},
		{"\xa0\x85", []string{"\xa0\x85"}},
		{"\u00e4 \u2190#\u2190", []string{"\u00e4", "\u2190"}},
	} {
		if got := script.Words(v.line); !slices.Equal(got, v.want) {
			t.Errorf("P20.3: Words(%q): %q, not %q", v.line, got, v.want)
		}
	}
}

// Each byte, alone, at the ends and in the midst.
func TestWordsOfEachByte(t *testing.T) {
	for i := range 256 {
		b := string([]byte{byte(i)})
		for _, line := range []string{b, b + b, "a" + b, b + "a", "a" + b + "c", "a " + b + " c", " " + b, b + " ", "\xc3" + b + "\xa4"} {
			if got, want := script.Words(line), wantWords(line); !slices.Equal(got, want) {
				t.Errorf("P20.3: Words(%q): %q, not %q", line, got, want)
			}
		}
	}
}

// Every line of six bytes at most, out of a few that matter.
func TestWordsOfShortLines(t *testing.T) {
	const few = " \t\r#a\n\x85"
	lines := []string{""}
	for len(lines[0]) <= 6 {
		var longer []string
		for _, line := range lines {
			if got, want := script.Words(line), wantWords(line); !slices.Equal(got, want) {
				t.Fatalf("P20.3: Words(%q): %q, not %q", line, got, want)
			}
			for i := range few {
				longer = append(longer, line+few[i:i+1])
			}
		}
		lines = longer
	}
}

// How long a line is isn't asked here.
func TestWordsOfLongLines(t *testing.T) {
	line := strings.Repeat("ab ", 100000)
	if got := script.Words(line); !slices.Equal(got, slices.Repeat([]string{"ab"}, 100000)) {
		t.Errorf("P20.3: of many words: %d", len(got))
	}
	line = strings.Repeat("a", 1<<19)
	if got := script.Words(line + "#" + line); !slices.Equal(got, []string{line}) {
		t.Errorf("P20.3: of a long word: %d", len(got))
	}
}
