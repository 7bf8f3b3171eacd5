package gate_test

import (
	"errors"
	"runtime"
	"testing"

	"parapet/api"
	"parapet/gate"
)

func holdMade[T any](t *testing.T, l *gate.Lazy[T], want bool) {
	t.Helper()
	for range 2 {
		if got := l.Made(); got != want {
			t.Errorf("P6.2: Made: %v, not %v", got, want)
		}
	}
}

func holdGet[T comparable](t *testing.T, l *gate.Lazy[T], want T) {
	t.Helper()
	if got := l.Get(); got != want {
		t.Errorf("P6.2: Get: %v, not %v", got, want)
	}
}

func holdCalls(t *testing.T, calls, want int) {
	t.Helper()
	if calls != want {
		t.Errorf("P6.3: f was called %d times, not %d", calls, want)
	}
}

func TestLazyOfTheChapter(t *testing.T) {
	n := 0
	l := gate.Make(func() int { n++; return n })
	holdMade(t, l, false)
	holdGet(t, l, 1)
	holdGet(t, l, 1)
	holdMade(t, l, true)
	holdCalls(t, n, 1)
}

func TestMakeCallsNothing(t *testing.T) {
	calls := 0
	f := func() int { calls++; return calls }
	l := gate.Make(f)
	if l == nil {
		t.Fatal("P6.2: Make answers nil")
	}
	for range 5 {
		holdMade(t, l, false)
	}
	holdCalls(t, calls, 0)
	gate.Make(f)
	holdCalls(t, calls, 0)
}

// holdLazy: a Lazy of a function that answers this value, which may be its type's zero value, too.
func holdLazy[T comparable](t *testing.T, value T) {
	t.Helper()
	calls := 0
	l := gate.Make(func() T { calls++; return value })
	holdMade(t, l, false)
	holdCalls(t, calls, 0)
	for range 5 {
		holdGet(t, l, value)
		holdMade(t, l, true)
		holdCalls(t, calls, 1)
	}
}

func TestLaziesOfManyTypes(t *testing.T) {
	number := 5
	holdLazy(t, 7)
	holdLazy(t, -1)
	holdLazy(t, "a text")
	holdLazy(t, true)
	holdLazy(t, 1.5)
	holdLazy(t, uint8(255))
	holdLazy(t, api.ErrStale)
	holdLazy(t, api.Record{At: 1, Code: api.ErrCut, Session: 2, Number: 3})
	holdLazy(t, [3]int{1, 2, 3})
	holdLazy(t, &number)
	holdLazy(t, errors.New("an error"))
	holdLazy(t, any(3))
	holdLazy(t, make(chan int))
	holdLazy(t, gate.New())
}

func TestZeroValueIsAValue(t *testing.T) {
	holdLazy(t, 0)
	holdLazy(t, "")
	holdLazy(t, false)
	holdLazy(t, 0.0)
	holdLazy(t, api.OK)
	holdLazy(t, api.Record{})
	holdLazy(t, struct{}{})
	holdLazy[*int](t, nil)
	holdLazy[error](t, nil)
	holdLazy[any](t, nil)
	holdLazy[*gate.Gate](t, nil)
}

func TestLazyList(t *testing.T) {
	calls := 0
	l := gate.Make(func() []int { calls++; return []int{calls, 5, 6} })
	for range 3 {
		if got := l.Get(); len(got) != 3 || got[0] != 1 || got[1] != 5 || got[2] != 6 {
			t.Errorf("P6.2: Get: %v, not [1 5 6]", got)
		}
	}
	none := gate.Make(func() []int { calls++; return nil })
	for range 3 {
		if got := none.Get(); len(got) != 0 {
			t.Errorf("P6.2: Get: %v of a function that answers no elements", got)
		}
	}
	holdMade(t, none, true)
	holdCalls(t, calls, 2)
}

func TestLazyFunction(t *testing.T) {
	calls, inner := 0, 0
	l := gate.Make(func() func() int {
		calls++
		return func() int { inner++; return inner }
	})
	for range 3 {
		l.Get()
	}
	// R9: what f answers is the caller's, and isn't called.
	holdCalls(t, inner, 0)
	if got := l.Get()(); got != 1 {
		t.Errorf("P6.2: the function that Get answers: %d, not 1", got)
	}
	holdCalls(t, calls, 1)
	bare := gate.Make(func() func() int { calls++; return nil })
	if bare.Get() != nil || bare.Get() != nil {
		t.Error("P6.2: Get answers a function where f answered nil")
	}
	holdMade(t, bare, true)
	holdCalls(t, calls, 2)
}

func TestTwoLaziesInTurns(t *testing.T) {
	// One function for both, which each calls for itself.
	n := 0
	f := func() int { n += 10; return n }
	a, b := gate.Make(f), gate.Make(f)
	holdGet(t, a, 10)
	holdMade(t, a, true)
	holdMade(t, b, false)
	holdGet(t, b, 20)
	holdGet(t, a, 10)
	holdGet(t, b, 20)
	holdMade(t, b, true)
	if n != 20 {
		t.Errorf("P6.3: f was called %d times for two", n/10)
	}
	text := gate.Make(func() string { return "x" })
	holdMade(t, text, false)
	holdGet(t, text, "x")
	holdGet(t, a, 10)
}

func TestMadeWhileItIsBeingMade(t *testing.T) {
	var l *gate.Lazy[int]
	within := true
	l = gate.Make(func() int { within = l.Made(); return 4 })
	holdGet(t, l, 4)
	if within {
		t.Error("P6.2: Made is true ahead of what f answers")
	}
	holdMade(t, l, true)
}

func TestLazyWithinALazy(t *testing.T) {
	calls := 0
	inner := gate.Make(func() int { calls++; return 3 })
	outer := gate.Make(func() int { calls++; return inner.Get() + inner.Get() })
	holdGet(t, outer, 6)
	holdGet(t, outer, 6)
	holdGet(t, inner, 3)
	holdMade(t, outer, true)
	holdMade(t, inner, true)
	holdCalls(t, calls, 2)
}

// thrown is what a call panics with, and whether it does.
func thrown(call func()) (value any, did bool) {
	did = true
	defer func() { value = recover() }()
	call()
	did = false
	return nil, did
}

// holdPanic: of a function that panics with this value.
func holdPanic[T comparable](t *testing.T, value any, zero T) {
	t.Helper()
	calls := 0
	l := gate.Make(func() T { calls++; panic(value) })
	holdMade(t, l, false)
	got, did := thrown(func() { l.Get() })
	if !did || got != value {
		t.Errorf("P6.2: the first Get panics: %v, with %v, not %v", did, got, value)
	}
	holdMade(t, l, false)
	holdCalls(t, calls, 1)
	for range 5 {
		if got, did := thrown(func() { holdGet(t, l, zero) }); did {
			t.Errorf("P6.2: a later Get panics with %v", got)
		}
		holdMade(t, l, false)
		holdCalls(t, calls, 1)
	}
}

func TestFunctionThatPanics(t *testing.T) {
	number := 3
	holdPanic(t, 7, 0)
	holdPanic(t, 0, 0)
	holdPanic(t, "a text", "")
	holdPanic(t, false, false)
	holdPanic(t, errors.New("an error"), api.Record{})
	holdPanic(t, api.ErrCut, api.OK)
	holdPanic[*int](t, &number, nil)
	holdPanic[error](t, struct{ a, b int }{1, 2}, nil)
	holdPanic(t, gate.New(), [2]string{})
}

func TestFunctionThatPanicsWithNil(t *testing.T) {
	l := gate.Make(func() int { panic(nil) })
	got, did := thrown(func() { l.Get() })
	if _, ok := got.(*runtime.PanicNilError); !did || !ok {
		t.Errorf("P6.2: Get of a function that panics with nil: %v, %v", got, did)
	}
	holdGet(t, l, 0)
	holdMade(t, l, false)
}

func TestFunctionThatFails(t *testing.T) {
	var list []int
	calls := 0
	l := gate.Make(func() int { calls++; return list[calls] })
	got, did := thrown(func() { l.Get() })
	if _, ok := got.(runtime.Error); !did || !ok {
		t.Errorf("P6.2: Get of a function that reads beyond a list: %v, %v", got, did)
	}
	list = []int{5, 6, 7}
	holdGet(t, l, 0)
	holdMade(t, l, false)
	holdCalls(t, calls, 1)
}

func TestFunctionThatPanicsWithAnAnswer(t *testing.T) {
	// What f would have answered is not the value, if it panics on its way out.
	l := gate.Make(func() (n int) {
		defer panic("late")
		return 9
	})
	if got, did := thrown(func() { l.Get() }); !did || got != "late" {
		t.Errorf("P6.2: the first Get panics: %v, with %v", did, got)
	}
	holdGet(t, l, 0)
	holdMade(t, l, false)
}

func TestFunctionThatCatchesItsPanic(t *testing.T) {
	calls := 0
	l := gate.Make(func() (n int) {
		calls++
		defer func() { n = recover().(int) }()
		panic(8)
	})
	holdGet(t, l, 8)
	holdMade(t, l, true)
	holdGet(t, l, 8)
	holdCalls(t, calls, 1)
}

func TestFunctionThatEndsItsGoroutine(t *testing.T) {
	calls := 0
	l := gate.Make(func() int { calls++; runtime.Goexit(); return 1 })
	done := make(chan bool)
	go func() {
		defer close(done)
		l.Get()
		done <- true
	}()
	if <-done {
		t.Error("P6.2: Get answers where f ended the goroutine")
	}
	holdGet(t, l, 0)
	holdMade(t, l, false)
	holdCalls(t, calls, 1)
}

// holdNone: a Lazy that answers as one without a value.
func holdNone[T comparable](t *testing.T, what string, l *gate.Lazy[T]) {
	t.Helper()
	var zero T
	for range 3 {
		if l.Made() {
			t.Errorf("R7: %s: Made true", what)
		}
		if got := l.Get(); got != zero {
			t.Errorf("R7: %s: Get %v, not %v", what, got, zero)
		}
	}
	if l.Made() {
		t.Errorf("R7: %s: Made true behind Get", what)
	}
}

// holdBare: a nil Lazy, and one of a nil function.
func holdBare[T comparable](t *testing.T) {
	t.Helper()
	holdNone[T](t, "a nil Lazy", nil)
	holdNone(t, "a Lazy of a nil function", gate.Make[T](nil))
	// P1: no call panics, at a Lazy that Make has not made neither.
	holdNone(t, "a Lazy that was not made", &gate.Lazy[T]{})
}

func TestNilLazyAndNilFunction(t *testing.T) {
	holdBare[int](t)
	holdBare[string](t)
	holdBare[bool](t)
	holdBare[float64](t)
	holdBare[api.Record](t)
	holdBare[[4]byte](t)
	holdBare[*int](t)
	holdBare[error](t)
	holdBare[any](t)
	holdBare[struct{}](t)
	if got := gate.Make[[]int](nil).Get(); len(got) != 0 {
		t.Errorf("R7: a Lazy of a nil function: Get %v", got)
	}
	if got := gate.Make[map[int]int](nil).Get(); len(got) != 0 {
		t.Errorf("R7: a Lazy of a nil function: Get %v", got)
	}
}
