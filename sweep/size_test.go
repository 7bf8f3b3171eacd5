package sweep_test

import (
	"sync"
	"testing"

	"parapet/api"
	"parapet/sweep"
)

func sizes(t *testing.T, alphabet, depth, want int, wrong api.Errno) {
	t.Helper()
	if got, e := sweep.Size(alphabet, depth); got != want || e != wrong {
		t.Errorf("P22.1: Size(%d, %d): %d, %d, not %d, %d", alphabet, depth, got, e, want, wrong)
	}
}

// The chapter's examples.
func TestSizeExamples(t *testing.T) {
	sizes(t, 3, 4, 81, api.OK)
	sizes(t, 16, 3, 4096, api.OK)
	sizes(t, 16, 4, 0, api.ErrFull)
	sizes(t, 0, 1, 0, api.ErrRange)
	sizes(t, 2, 5, 0, api.ErrRange)
	sizes(t, 5, 0, 1, api.OK)
}

// Every alphabet and depth that may be: the lists are counted.
func TestSizeOfAll(t *testing.T) {
	fits, full := 0, 0
	for alphabet := 1; alphabet <= 16; alphabet++ {
		for depth := 0; depth <= 4; depth++ {
			n := 0
			lists(alphabet, depth, func([]int) { n++ })
			if n > 4096 {
				sizes(t, alphabet, depth, 0, api.ErrFull)
				full++
				continue
			}
			sizes(t, alphabet, depth, n, api.OK)
			fits++
		}
	}
	// Above 4096 are the fourth powers from 9 on.
	if fits != 72 || full != 8 {
		t.Errorf("%d sizes are at most 4096, and %d above it", fits, full)
	}
}

// A power of just 4096, and the next ones.
func TestSizeAtItsLimit(t *testing.T) {
	sizes(t, 16, 3, 4096, api.OK)
	sizes(t, 8, 4, 4096, api.OK)
	sizes(t, 7, 4, 2401, api.OK)
	sizes(t, 15, 3, 3375, api.OK)
	sizes(t, 9, 4, 0, api.ErrFull)
	sizes(t, 10, 4, 0, api.ErrFull)
	sizes(t, 15, 4, 0, api.ErrFull)
	sizes(t, 16, 4, 0, api.ErrFull)
	for depth := range 5 {
		sizes(t, 1, depth, 1, api.OK)
	}
}

// One of the two out of its range, or both: ErrRange, also where the power would be small, great, or wrap.
func TestSizeOutOfRange(t *testing.T) {
	wrong := []int{least, least + 1, -1 << 32, -16, -1}
	badAlphabets := append([]int{0, 17, 64, 1<<16 + 1, 1 << 32, 1<<32 + 1, top - 1, top}, wrong...)
	badDepths := append([]int{5, 6, 63, 64, 1 << 32, 1<<32 + 1, top - 1, top}, wrong...)
	for _, alphabet := range badAlphabets {
		for depth := range 5 {
			sizes(t, alphabet, depth, 0, api.ErrRange)
		}
		for _, depth := range badDepths {
			sizes(t, alphabet, depth, 0, api.ErrRange)
		}
	}
	for _, depth := range badDepths {
		for alphabet := 1; alphabet <= 16; alphabet++ {
			sizes(t, alphabet, depth, 0, api.ErrRange)
		}
	}
}

// R8: whoever asks, and whatever was asked ahead.
func TestSizeAgain(t *testing.T) {
	var all sync.WaitGroup
	for range 8 {
		all.Go(func() {
			for range 200 {
				sizes(t, 16, 4, 0, api.ErrFull)
				sizes(t, 3, 4, 81, api.OK)
				sizes(t, 17, 4, 0, api.ErrRange)
			}
		})
	}
	all.Wait()
}

// P1: any numbers.
func FuzzSize(f *testing.F) {
	f.Add(int64(3), int64(4))
	f.Add(int64(top), int64(least))
	f.Fuzz(func(t *testing.T, a, b int64) {
		alphabet, depth := int(a), int(b)
		if alphabet < 1 || alphabet > 16 || depth < 0 || depth > 4 {
			sizes(t, alphabet, depth, 0, api.ErrRange)
			return
		}
		if n, e := sweep.Size(alphabet, depth); e == api.OK && (n < 1 || n > 4096) || e == api.ErrFull && n != 0 || e != api.OK && e != api.ErrFull {
			t.Errorf("P22.1: Size(%d, %d): %d, %d", alphabet, depth, n, e)
		}
	})
}
