package diag_test

import (
	"slices"
	"testing"

	"parapet/api"
	"parapet/diag"
)

// spoil changes each element of a list, with its room, and appends to it.
func spoil[T any](list []T, with T) {
	all := list[:cap(list)]
	for i := range all {
		all[i] = with
	}
	_ = append(list, with, with, with)
}

var (
	badRecord = api.Record{At: -9, Code: -99, Session: 999, Number: 9999}
	badCode   = api.Errno(-99)
)

// filled: a Diag behind n notes, and all that was noted.
func filled(n int) (*diag.Diag, *past) {
	d, p := diag.New(), &past{}
	for i := range n {
		code := api.Errno(1 + (i*29)%37)
		d.Note(code, uint32(i), uint32(2*i))
		p.add(code, uint32(i), uint32(2*i))
	}
	return d, p
}

func TestAnswersAreNew(t *testing.T) {
	for _, n := range numbers {
		d, p := filled(n)
		records, codes := d.Records(), d.Codes()
		spoil(d.Records(), badRecord)
		spoil(d.Codes(), badCode)
		// Neither an earlier answer changes, nor what is kept, nor a later one.
		if !slices.Equal(records, p.records()) || !slices.Equal(codes, p.codes()) {
			t.Errorf("R6: behind %d notes: an answer that is changed changes an earlier one: %v, %v", n, records, codes)
		}
		p.hold(t, d)
		spoil(records, badRecord)
		spoil(codes, badCode)
		p.hold(t, d)
		// Nor does it show behind what is noted later.
		for i := range 2*api.MaxRecords + 1 {
			p.note(t, d, api.Errno(30+i), 5, 6)
			p.hold(t, d)
			spoil(d.Records(), badRecord)
			spoil(d.Codes(), badCode)
			p.hold(t, d)
		}
	}
}

// What was answered stays as it was, whatever is noted behind it.
func TestAnswersStay(t *testing.T) {
	for _, n := range numbers {
		d, p := filled(n)
		records, codes := d.Records(), d.Codes()
		wantRecords, wantCodes := slices.Clone(p.records()), p.codes()
		// In the room of an answer nothing is written either.
		room, more := slices.Clone(records[:cap(records)]), slices.Clone(codes[:cap(codes)])
		for i := range 3 * api.MaxRecords {
			d.Note(api.Errno(i-60), 1, 1)
			d.Note(api.OK, 1, 1)
			d.Records()
			d.Codes()
		}
		if !slices.Equal(records, wantRecords) || !slices.Equal(records[:cap(records)], room) {
			t.Errorf("R6: behind %d notes: an earlier answer of Records is %v, not %v", n, records, wantRecords)
		}
		if !slices.Equal(codes, wantCodes) || !slices.Equal(codes[:cap(codes)], more) {
			t.Errorf("R6: behind %d notes: an earlier answer of Codes is %v, not %v", n, codes, wantCodes)
		}
	}
}

// An answer's room is its own as well: two that grow don't meet.
func TestAnswersGrowApart(t *testing.T) {
	for _, n := range numbers {
		d, p := filled(n)
		holdApart(t, d.Records, p.records(), api.Record{At: 1}, api.Record{At: 2})
		holdApart(t, d.Codes, p.codes(), 1001, 1002)
		p.hold(t, d)
		var none *diag.Diag
		holdApart(t, none.Records, nil, api.Record{At: 1}, api.Record{At: 2})
		holdApart(t, none.Codes, nil, 1001, 1002)
	}
}

func holdApart[T comparable](t *testing.T, ask func() []T, want []T, one, two T) {
	t.Helper()
	a, b := ask(), ask()
	a = append(a, one, one)
	b = append(b, two, two)
	if !slices.Equal(a, append(slices.Clone(want), one, one)) || !slices.Equal(b, append(slices.Clone(want), two, two)) {
		t.Errorf("R6: answers that were appended to: %v, %v", a, b)
	}
}

// Nor does one Diag's answer touch another Diag.
func TestAnswersOfTwo(t *testing.T) {
	for _, n := range numbers {
		a, p := filled(n)
		b, q := filled(n)
		kept := b.Records()
		spoil(a.Records(), badRecord)
		spoil(a.Codes(), badCode)
		p.hold(t, a)
		q.hold(t, b)
		if !slices.Equal(kept, q.records()) {
			t.Errorf("R6: behind %d notes: an answer of one changes one of another: %v", n, kept)
		}
	}
}
