package dirty_test

import (
	"math"
	"slices"
	"testing"

	"demesne/api"
	"demesne/dirty"
)

// edgePages rise; any number is a page's.
var edgePages = []uint64{0, 1, 5, 9, 31, 32, 62, 63, 64, 65, 127, 128, 255, 256, 511, 512, 1<<28 - 1, 1 << 28, 1<<31 - 1, 1 << 31, 1 << 32, 1<<32 + 5, 1<<63 - 1, 1 << 63, math.MaxUint64 - 64, math.MaxUint64 - 63, math.MaxUint64 - 1, math.MaxUint64}

func started(t *testing.T, noted ...uint64) *dirty.Log {
	t.Helper()
	l := dirty.New()
	if e := l.Start(); e != api.OK {
		t.Fatalf("19.1: Start: %d", e)
	}
	note(t, l, noted...)
	return l
}

func note(t *testing.T, l *dirty.Log, noted ...uint64) {
	t.Helper()
	for _, page := range noted {
		if !l.Note(page) {
			t.Fatalf("19.2: Note(%d): false", page)
		}
	}
}

// collects fails the test if the log tells other pages.
func collects(t *testing.T, l *dirty.Log, want ...uint64) {
	t.Helper()
	if p, e := l.Collect(); e != api.OK || !slices.Equal(p, want) {
		t.Fatalf("19.2: Collect: %v, %d; want %v", p, e, want)
	}
}

// isEmpty fails the test if the log has one of the pages, or is on where it should be off.
func isEmpty(t *testing.T, l *dirty.Log, on bool) {
	t.Helper()
	if l.On() != on {
		t.Fatalf("19.1: On: %v", !on)
	}
	for _, page := range edgePages {
		if l.Has(page) || l.Forget(page) {
			t.Fatalf("19.1: page %d is in a log that should have none", page)
		}
	}
}

func TestExample(t *testing.T) {
	l := dirty.New()
	if l.Note(5) {
		t.Error("19.2: Note(5) ahead of Start: true")
	}
	l.Start()
	if !l.Note(9) || !l.Note(5) || l.Note(9) {
		t.Error("19.2: Note(9), Note(5), Note(9): not true, true, false")
	}
	collects(t, l, 5, 9)
}

func TestOff(t *testing.T) {
	l := dirty.New()
	for range 2 {
		isEmpty(t, l, false)
		for _, page := range edgePages {
			if l.Note(page) || l.Has(page) || l.Forget(page) {
				t.Fatalf("19.2: page %d was noted by a log that is off", page)
			}
		}
		if p, e := l.Collect(); e != api.ErrState || len(p) != 0 {
			t.Fatalf("19.2: Collect of a log that is off: %v, %d", p, e)
		}
		if e := l.Stop(); e != api.ErrState || l.On() {
			t.Fatalf("19.1: Stop of a log that is off: %d", e)
		}
	}
	if e := l.Start(); e != api.OK || !l.On() {
		t.Fatalf("19.1: Start: %d", e)
	}
	collects(t, l)
}

func TestStartWhenOn(t *testing.T) {
	l := started(t, 9, 5)
	for range 2 {
		if e := l.Start(); e != api.ErrState || !l.On() {
			t.Fatalf("19.1: Start of a log that is on: %d", e)
		}
	}
	if !l.Has(9) || !l.Has(5) || l.Note(9) {
		t.Error("19.1: a refused Start took a page")
	}
	collects(t, l, 5, 9)
}

func TestStopLosesPages(t *testing.T) {
	l := started(t, edgePages...)
	for range 3 {
		if e := l.Stop(); e != api.OK {
			t.Fatalf("19.1: Stop: %d", e)
		}
		isEmpty(t, l, false)
		if e := l.Start(); e != api.OK {
			t.Fatalf("19.1: Start: %d", e)
		}
		isEmpty(t, l, true)
		collects(t, l)
		note(t, l, 7, 6)
	}
	collects(t, l, 6, 7)
}

// TestEachPage: what is noted of a page says nothing of another one.
func TestEachPage(t *testing.T) {
	for _, page := range edgePages {
		l := started(t, page)
		for _, other := range edgePages {
			if l.Has(other) != (other == page) {
				t.Errorf("19.2: Note(%d); Has(%d): %v", page, other, other != page)
			}
			if other != page && l.Forget(other) {
				t.Errorf("19.2: Note(%d); Forget(%d): true", page, other)
			}
		}
		if l.Note(page) {
			t.Errorf("19.2: Note(%d), Note(%d): true", page, page)
		}
		collects(t, l, page)
		isEmpty(t, l, true)
	}
}

func TestForget(t *testing.T) {
	l := started(t, edgePages...)
	left := slices.Clone(edgePages)
	for len(left) > 0 {
		page := left[len(left)/2]
		if !l.Forget(page) || l.Forget(page) || l.Has(page) {
			t.Fatalf("19.2: Forget(%d): not true, then false", page)
		}
		left = slices.Delete(left, len(left)/2, len(left)/2+1)
		for _, other := range left {
			if !l.Has(other) {
				t.Fatalf("19.2: Forget(%d) took %d", page, other)
			}
		}
	}
	collects(t, l)
}

// TestForgottenIsNotTold, but if it is noted anew.
func TestForgottenIsNotTold(t *testing.T) {
	l := started(t, 3, 70, 4)
	if !l.Forget(70) || !l.Forget(3) || !l.Note(3) || l.Note(4) {
		t.Error("19.3: Forget(70), Forget(3), Note(3), Note(4): not true, true, true, false")
	}
	collects(t, l, 3, 4)
	if l.Forget(3) || l.Forget(70) {
		t.Error("19.3: a page that was told is still there")
	}
	note(t, l, 70)
	collects(t, l, 70)
}

func TestCollect(t *testing.T) {
	falling := slices.Clone(edgePages)
	slices.Reverse(falling)
	l := started(t, falling...)
	for range 2 {
		collects(t, l, edgePages...)
		isEmpty(t, l, true)
		collects(t, l)
		note(t, l, edgePages...)
	}
}

// TestToldOnce: a page is told by the first Collect after its Note and by none beyond, however often it was noted.
func TestToldOnce(t *testing.T) {
	l := started(t)
	for round := range uint64(200) {
		note(t, l, round)
		for range 3 {
			if l.Note(round) {
				t.Fatalf("19.3: Note(%d) again: true", round)
			}
		}
		collects(t, l, round)
		collects(t, l)
	}
}

func TestToldListsAreApart(t *testing.T) {
	l := started(t, 1, 2, 3)
	first, _ := l.Collect()
	first = first[:cap(first)]
	for i := range first {
		first[i] = 77
	}
	isEmpty(t, l, true)
	note(t, l, 4, 5, 6)
	second, _ := l.Collect()
	if !slices.Equal(second, []uint64{4, 5, 6}) {
		t.Errorf("19.2: Collect: %v", second)
	}
	for i := range second {
		second[i] = 88
	}
	for i, page := range first {
		if page != 77 {
			t.Errorf("19.2: place %d of a list that was told is %d", i, page)
		}
	}
	note(t, l, 77, 88)
	collects(t, l, 77, 88)
}

func TestLogsAreApart(t *testing.T) {
	a, b := started(t, 1, 2), dirty.New()
	if b.On() || b.Has(1) || b.Note(1) {
		t.Error("19.1: a log is on because another one is")
	}
	b.Start()
	isEmpty(t, b, true)
	note(t, b, 2, 3)
	a.Forget(2)
	collects(t, b, 2, 3)
	b.Stop()
	if !a.On() {
		t.Error("19.1: a log is off because another one is")
	}
	collects(t, a, 1)
}
