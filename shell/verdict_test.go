package shell

import (
	"math"
	"strings"
	"testing"

	"parapet/api"
)

// judge of bad histories, from within: no world has one.
func TestVerdictLine(t *testing.T) {
	for v, want := range map[api.Verdict]string{
		{}:                             "good\n",
		{Rule: 1}:                      "bad 1 0\n",
		{Rule: 6, At: 4}:               "bad 6 4\n",
		{Rule: 8, At: math.MaxInt32}:   "bad 8 2147483647\n",
		{Rule: 2, At: 10 * api.MaxBag}: "bad 2 40960\n",
	} {
		if got := verdictLine(v); got != want {
			t.Errorf("P23.1: judge of %+v: %q, not %q", v, got, want)
		}
	}
}

// What is kept doesn't grow with the lines: sets that no net may have aren't.
func TestFewSetsAreKept(t *testing.T) {
	s := New()
	s.Run("net 9\n" + strings.Repeat("host 1 1 1 5 9\ndevice 1 1 1 5 9\n", 1000))
	if len(s.net.Hosts) > api.MaxConns+1 || len(s.net.Devices) > api.MaxConns+1 {
		t.Errorf("kept are %d hosts and %d devices", len(s.net.Hosts), len(s.net.Devices))
	}
}
