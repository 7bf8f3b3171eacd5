package diag_test

import (
	"math"
	"slices"
	"testing"

	"parapet/api"
	"parapet/diag"
)

const (
	least = math.MinInt64
	top   = math.MaxInt64

	greatest = math.MaxUint32
)

// numbers: how many notes the edges lie behind.
var numbers = []int{0, 1, 2, api.MaxRecords - 1, api.MaxRecords, api.MaxRecords + 1, 2*api.MaxRecords - 1, 2 * api.MaxRecords, 2*api.MaxRecords + 1, 3 * api.MaxRecords, 300}

// past is all that was noted, and answers by that alone what must be answered.
type past struct{ all []api.Record }

func (p *past) add(code api.Errno, session, number uint32) {
	p.all = append(p.all, api.Record{At: len(p.all) + 1, Code: code, Session: session, Number: number})
}

func (p *past) records() []api.Record {
	return p.all[max(0, len(p.all)-api.MaxRecords):]
}

func (p *past) last() (api.Record, bool) {
	if len(p.all) == 0 {
		return api.Record{}, false
	}
	return p.all[len(p.all)-1], true
}

func (p *past) count(code api.Errno) (n int) {
	for _, r := range p.all {
		if r.Code == code {
			n++
		}
	}
	return n
}

func (p *past) codes() (list []api.Errno) {
	for _, r := range p.all {
		if !slices.Contains(list, r.Code) {
			list = append(list, r.Code)
		}
	}
	slices.Sort(list)
	return list
}

// strangers: codes of which some were never noted, OK among them.
var strangers = []api.Errno{api.OK, least, least + 1, -1 << 32, -2, -1, 1, 2, 5, 42, 100, 131, 132, 255, 256, 1 << 16, 1 << 32, 1<<32 + 1, 1<<32 + 42, top - 1, top}

// hold: a Diag shows just what was noted.
func (p *past) hold(t *testing.T, d *diag.Diag) {
	t.Helper()
	// Twice: looking changes nothing.
	for range 2 {
		if got := d.Total(); got != len(p.all) {
			t.Fatalf("P12.2: Total: %d, not %d", got, len(p.all))
		}
		if got, want := d.Records(), p.records(); !slices.Equal(got, want) {
			t.Fatalf("P12.2: Records behind %d notes: %v, not %v", len(p.all), got, want)
		}
		want, is := p.last()
		if got, ok := d.Last(); got != want || ok != is {
			t.Fatalf("P12.2: Last behind %d notes: %v, %v, not %v, %v", len(p.all), got, ok, want, is)
		}
		codes := p.codes()
		if got := d.Codes(); !slices.Equal(got, codes) {
			t.Fatalf("P12.2: Codes: %v, not %v", got, codes)
		}
		for _, code := range append(codes, strangers...) {
			if got, want := d.Count(code), p.count(code); got != want {
				t.Fatalf("P12.2: Count(%d): %d, not %d", code, got, want)
			}
		}
	}
}

// note does one note, and holds its answer, which is of P12.1.
func (p *past) note(t *testing.T, d *diag.Diag, code api.Errno, session, number uint32) {
	t.Helper()
	p.add(code, session, number)
	if at, e := d.Note(code, session, number); at != len(p.all) || e != api.OK {
		t.Fatalf("P12.1: Note(%d, %d, %d): %d, %d, not %d, 0", code, session, number, at, e, len(p.all))
	}
}

// refuse: a Note of OK is refused, whatever is beside it.
func refuse(t *testing.T, d *diag.Diag) {
	t.Helper()
	for _, n := range []uint32{0, 1, 7, greatest} {
		for _, m := range []uint32{0, 1, 7, greatest} {
			// R3: no number beside the error.
			if at, e := d.Note(api.OK, n, m); at != 0 || e != api.ErrRange {
				t.Fatalf("P12.1: Note(0, %d, %d): %d, %d, not 0, %d", n, m, at, e, api.ErrRange)
			}
		}
	}
}

func TestExamples(t *testing.T) {
	d := diag.New()
	for i, code := range []api.Errno{100, 42} {
		if at, e := d.Note(code, 3, 7); at != i+1 || e != api.OK {
			t.Errorf("P12.1: Note(%d, 3, 7): %d, %d, not %d, 0", code, at, e, i+1)
		}
	}
	if at, e := d.Note(api.OK, 1, 1); at != 0 || e != api.ErrRange {
		t.Errorf("P12.1: Note(0, 1, 1): %d, %d, not 0, %d", at, e, api.ErrRange)
	}
	if got := d.Total(); got != 2 {
		t.Errorf("P12.2: Total: %d, not 2", got)
	}
	if got := d.Count(42); got != 1 {
		t.Errorf("P12.2: Count(42): %d, not 1", got)
	}
	if got := d.Count(5); got != 0 {
		t.Errorf("P12.2: Count(5): %d, not 0", got)
	}
	if got := d.Codes(); !slices.Equal(got, []api.Errno{42, 100}) {
		t.Errorf("P12.2: Codes: %v, not 42, 100", got)
	}
	if got, ok := d.Last(); got != (api.Record{At: 2, Code: 42, Session: 3, Number: 7}) || !ok {
		t.Errorf("P12.2: Last: %v, %v, not {2 42 3 7}, true", got, ok)
	}
	if got := d.Records(); !slices.Equal(got, []api.Record{{At: 1, Code: 100, Session: 3, Number: 7}, {At: 2, Code: 42, Session: 3, Number: 7}}) {
		t.Errorf("P12.2: Records: %v", got)
	}
}

func TestNew(t *testing.T) {
	d := diag.New()
	if d == nil {
		t.Fatal("P12.1: New: nil")
	}
	p := &past{}
	p.hold(t, d)
	p.note(t, d, api.ErrStale, 1, 2)
	p.hold(t, d)
	// Another one doesn't begin where this one is.
	(&past{}).hold(t, diag.New())
	p.hold(t, d)
}

// kinds: ways to number the codes of many notes.
var kinds = []struct {
	name string
	code func(i int) api.Errno
}{
	{"one code", func(int) api.Errno { return api.ErrStale }},
	{"the least int", func(int) api.Errno { return least }},
	{"the greatest int", func(int) api.Errno { return top }},
	{"-1", func(int) api.Errno { return -1 }},
	{"two codes in turns", func(i int) api.Errno { return 130 + api.Errno(i%2) }},
	{"another code each time, rising", func(i int) api.Errno { return api.Errno(1 + i) }},
	{"another code each time, falling", func(i int) api.Errno { return api.Errno(-1 - i) }},
	{"falling from the greatest", func(i int) api.Errno { return api.Errno(top - i) }},
	{"rising from the least", func(i int) api.Errno { return api.Errno(least + i) }},
	{"up and down", func(i int) api.Errno { return api.Errno((1 - 2*(i%2)) * (1 + i)) }},
	{"codes that differ in their high bits alone", func(i int) api.Errno { return 42 + api.Errno(i)<<32 }},
	{"runs of one code", func(i int) api.Errno { return api.Errno(400 - i/5) }},
	{"one again at each full round", func(i int) api.Errno { return api.Errno(1 + (i*5)%api.MaxRecords) }},
	{"one again just behind a full round", func(i int) api.Errno { return api.Errno(50 - (i*5)%(api.MaxRecords+1)) }},
	{"an early one, then another for good", func(i int) api.Errno { return api.ErrCheck + api.Errno(min(i, 3)) }},
}

// words: sessions and numbers beside the i-th note.
func words(i int) (session, number uint32) {
	list := []uint32{0, 1, greatest, 7, 1 << 31, greatest - 1, 0xffff}
	return list[i%len(list)], list[i/len(list)%len(list)]
}

func TestBehindSoManyNotes(t *testing.T) {
	for _, kind := range kinds {
		t.Run(kind.name, func(t *testing.T) {
			for _, n := range numbers {
				d, p := diag.New(), &past{}
				for i := range n {
					session, number := words(i)
					p.note(t, d, kind.code(i), session, number)
				}
				p.hold(t, d)
				// R4: an error has changed nothing.
				refuse(t, d)
				p.hold(t, d)
				// The next one goes on behind the last that was kept.
				p.note(t, d, kind.code(n), greatest, greatest)
				p.hold(t, d)
			}
		})
	}
}

func TestBehindEachNote(t *testing.T) {
	for _, kind := range kinds {
		d, p := diag.New(), &past{}
		for i := range 3*api.MaxRecords + 2 {
			session, number := words(i)
			p.note(t, d, kind.code(i), session, number)
			p.hold(t, d)
		}
	}
}

func TestNoteOfNothing(t *testing.T) {
	for _, n := range numbers {
		d, p := diag.New(), &past{}
		refuse(t, d)
		p.hold(t, d)
		for i := range n {
			p.note(t, d, api.Errno(-5+11*(i%7)), uint32(i), uint32(i*i))
			// Between two notes it takes no number away.
			if at, e := d.Note(api.OK, 3, 7); at != 0 || e != api.ErrRange {
				t.Fatalf("P12.1: Note(0, 3, 7): %d, %d, not 0, %d", at, e, api.ErrRange)
			}
			if got := d.Count(api.OK); got != 0 {
				t.Fatalf("P12.2: Count(0): %d, not 0", got)
			}
		}
		p.hold(t, d)
	}
}

func TestSessionAndNumber(t *testing.T) {
	edges := []uint32{0, 1, 2, 0xff, 0x100, 0xffff, 0x10000, 1<<31 - 1, 1 << 31, greatest - 1, greatest}
	d, p := diag.New(), &past{}
	for _, session := range edges {
		for _, number := range edges {
			p.note(t, d, api.ErrStale, session, number)
			want := api.Record{At: len(p.all), Code: api.ErrStale, Session: session, Number: number}
			if got, ok := d.Last(); got != want || !ok {
				t.Errorf("P12.2: Last: %v, %v, not %v, true", got, ok, want)
			}
		}
	}
	p.hold(t, d)
}

func TestCodes(t *testing.T) {
	edges := []api.Errno{top, least, -1, 1, top - 1, least + 1, 1 << 32, -1 << 32, 1<<32 + 1, 256, 255, -256, api.ErrEmpty, api.ErrRange}
	want := slices.Clone(edges)
	slices.Sort(want)
	// From each of them on: the order in which they are noted doesn't show.
	for from := range edges {
		d, p := diag.New(), &past{}
		for range 3 {
			for i := range edges {
				p.note(t, d, edges[(from+i)%len(edges)], 1, 1)
			}
			if got := d.Codes(); !slices.Equal(got, want) {
				t.Errorf("P12.2: Codes from %d on: %v, not %v", edges[from], got, want)
			}
		}
		p.hold(t, d)
	}
}

func TestEveryOrderOfCodes(t *testing.T) {
	codes := []api.Errno{-7, 3, 42, 100, 131}
	var order func(list []api.Errno, at int)
	order = func(list []api.Errno, at int) {
		if at == len(list) {
			d, p := diag.New(), &past{}
			for _, code := range list {
				p.note(t, d, code, 0, 0)
			}
			p.hold(t, d)
			return
		}
		for i := at; i < len(list); i++ {
			next := slices.Clone(list)
			next[at], next[i] = next[i], next[at]
			order(next, at+1)
		}
	}
	order(codes, 0)
}

func TestCodesOfDroppedRecords(t *testing.T) {
	d, p := diag.New(), &past{}
	for _, code := range []api.Errno{90, -3, 90, 44} {
		p.note(t, d, code, 1, 1)
	}
	for range 2 * api.MaxRecords {
		p.note(t, d, 60, 2, 2)
	}
	for _, r := range d.Records() {
		if r.Code != 60 {
			t.Errorf("P12.1: Records: %v is still among them", r)
		}
	}
	for code, want := range map[api.Errno]int{90: 2, -3: 1, 44: 1, 60: 2 * api.MaxRecords, api.OK: 0, 3: 0} {
		if got := d.Count(code); got != want {
			t.Errorf("P12.2: Count(%d): %d, not %d", code, got, want)
		}
	}
	if got, want := d.Codes(), []api.Errno{-3, 44, 60, 90}; !slices.Equal(got, want) {
		t.Errorf("P12.2: Codes: %v, not %v", got, want)
	}
	// And one of them noted anew goes on where its count was.
	p.note(t, d, 90, 3, 3)
	if got := d.Count(90); got != 3 {
		t.Errorf("P12.2: Count(90): %d, not 3", got)
	}
	p.hold(t, d)
}

// holdSums: P12.3, told by no past.
func holdSums(t *testing.T, d *diag.Diag) {
	t.Helper()
	total, records := d.Total(), d.Records()
	if want := min(total, api.MaxRecords); len(records) != want {
		t.Fatalf("P12.3: %d records behind %d notes, not %d", len(records), total, want)
	}
	for i, r := range records {
		if want := total - len(records) + 1 + i; r.At != want {
			t.Fatalf("P12.3: record %d behind %d notes has At %d, not %d", i, total, r.At, want)
		}
	}
	last, ok := d.Last()
	if ok != (total > 0) || ok && last != records[len(records)-1] {
		t.Fatalf("P12.3: Last: %v, %v behind %d notes", last, ok, total)
	}
	sum := 0
	codes := d.Codes()
	for i, code := range codes {
		if code == api.OK || i > 0 && codes[i-1] >= code {
			t.Fatalf("P12.2: Codes: %v", codes)
		}
		n := d.Count(code)
		if n < 1 {
			t.Fatalf("P12.2: Count(%d): %d, though it is among the Codes", code, n)
		}
		sum += n
	}
	if sum != total {
		t.Fatalf("P12.3: the Counts sum up to %d, not %d", sum, total)
	}
}

func TestSums(t *testing.T) {
	for _, kind := range kinds {
		d := diag.New()
		holdSums(t, d)
		for i := range 120 {
			d.Note(kind.code(i), uint32(i), 0)
			holdSums(t, d)
			d.Note(api.OK, uint32(i), 0)
			holdSums(t, d)
		}
	}
}

func TestManyNotes(t *testing.T) {
	// Past what 16 bits count.
	d := diag.New()
	n := 1<<16 + 5
	for i := range n {
		if at, e := d.Note(api.Errno(1+i%3), uint32(i), uint32(n-i)); at != i+1 || e != api.OK {
			t.Fatalf("P12.1: Note %d: %d, %d", i+1, at, e)
		}
	}
	holdSums(t, d)
	for i, r := range d.Records() {
		at := n - api.MaxRecords + i
		if want := (api.Record{At: at + 1, Code: api.Errno(1 + at%3), Session: uint32(at), Number: uint32(n - at)}); r != want {
			t.Errorf("P12.1: record %d: %v, not %v", i, r, want)
		}
	}
	for i := range 3 {
		if got, want := d.Count(api.Errno(1+i)), (n-i+2)/3; got != want {
			t.Errorf("P12.2: Count(%d): %d, not %d", 1+i, got, want)
		}
	}
}

func TestManyCodes(t *testing.T) {
	// Another one each time, in no order; 5000 is no multiple of 7.
	d := diag.New()
	for i := range 5000 {
		d.Note(api.Errno((i*7)%5000-2500)*1e9+1, 0, 0)
	}
	holdSums(t, d)
	if got := len(d.Codes()); got != 5000 {
		t.Errorf("P12.2: %d Codes, not 5000", got)
	}
}

// holdNone: it holds nothing.
func holdNone(t *testing.T, d *diag.Diag) {
	t.Helper()
	if got := d.Total(); got != 0 {
		t.Errorf("R7: Total: %d, not 0", got)
	}
	for _, code := range strangers {
		if got := d.Count(code); got != 0 {
			t.Errorf("R7: Count(%d): %d, not 0", code, got)
		}
	}
	if got := d.Codes(); len(got) != 0 {
		t.Errorf("R7: Codes: %v, not none", got)
	}
	if got := d.Records(); len(got) != 0 {
		t.Errorf("R7: Records: %v, not none", got)
	}
	if got, ok := d.Last(); got != (api.Record{}) || ok {
		t.Errorf("R7: Last: %v, %v, not a zero one, false", got, ok)
	}
}

func TestNil(t *testing.T) {
	var d *diag.Diag
	holdNone(t, d)
	// R2: ErrNil ahead of ErrRange.
	for _, code := range strangers {
		for _, n := range []uint32{0, 1, greatest} {
			if at, e := d.Note(code, n, n); at != 0 || e != api.ErrNil {
				t.Errorf("P12.1: Note(%d, %d, %d) of nil: %d, %d, not 0, %d", code, n, n, at, e, api.ErrNil)
			}
		}
	}
	holdNone(t, d)
}

// P1: one that New has not made doesn't panic either.
func TestNotMadeByNew(t *testing.T) {
	d := &diag.Diag{}
	for range 2 {
		holdNone(t, &diag.Diag{})
		for range 2 * api.MaxRecords {
			for _, code := range strangers {
				d.Note(code, 1, 1)
			}
		}
		d.Total()
		d.Records()
		d.Last()
		d.Codes()
		d.Count(api.ErrStale)
	}
}
