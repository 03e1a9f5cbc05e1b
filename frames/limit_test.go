package frames

import (
	"testing"

	"demesne/api"
	"demesne/phys"
)

// TestMostCounts sets the counts from within: to come near the greatest one by Refs takes long.
func TestMostCounts(t *testing.T) {
	m, _ := phys.New(4)
	f, _ := New(m, 2)
	table, _ := f.Table()
	page, _ := f.Page()
	for _, frame := range []int{table, page} {
		f.counts[frame] = 1<<30 - 1
		m.Write(uint64(frame)*api.FrameSize, 8, 7)
		if n, e := f.Ref(frame); n != 1<<30 || e != api.OK {
			t.Errorf("8.3: Ref(%d) at 2^30 - 1: %d, %d", frame, n, e)
		}
		for range 2 {
			if n, e := f.Ref(frame); n != 0 || e != api.ErrState || f.Count(frame) != 1<<30 {
				t.Errorf("8.3: Ref(%d) at 2^30: %d, %d, the count is %d", frame, n, e, f.Count(frame))
			}
		}
		if n, e := f.Drop(frame); n != 1<<30-1 || e != api.OK || f.Count(frame) != 1<<30-1 {
			t.Errorf("8.3: Drop(%d) at 2^30: %d, %d", frame, n, e)
		}
		if n, e := f.Ref(frame); n != 1<<30 || e != api.OK || m.Clear(frame) {
			t.Errorf("8.3: Ref(%d) at 2^30 - 1 again: %d, %d", frame, n, e)
		}
	}
}

// TestNothingIsKeptOfFreeFrames looks at the map that the chapter's Ways ask for.
func TestNothingIsKeptOfFreeFrames(t *testing.T) {
	m, _ := phys.New(2048)
	f, _ := New(m, 2)
	first, _ := f.Block()
	table, _ := f.Table()
	f.Ref(table)
	for frame := range 2048 {
		f.Count(frame)
		f.Ref(frame)
		f.Drop(frame)
		f.Drop(frame)
	}
	f.Ref(-1)
	f.Drop(2048)
	f.Drop(table)
	if len(f.counts) != 0 || f.Count(first) != 0 {
		t.Errorf("8.3: all frames are free, and %d have a count", len(f.counts))
	}
}
