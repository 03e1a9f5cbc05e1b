package index

import (
	"runtime"
	"slices"
	"testing"

	"demesne/api"
	"demesne/phys"
)

// TestSet: frames on both sides of a word's end are told rising, and no word stays when its last frame goes.
func TestSet(t *testing.T) {
	var s set
	frames := []int{0, 63, 64, 65, 127, 128, 4096, api.MaxFrames - 1}
	for _, i := range []int{5, 0, 7, 2, 1, 6, 4, 3} {
		s = s.with(frames[i])
	}
	if got := slices.Collect(s.each); !slices.Equal(got, frames) || len(s) != 5 {
		t.Errorf("20.2: %v in %d words", got, len(s))
	}
	for i, words := range []int{5, 4, 4, 4, 3, 2, 1, 0} {
		s = s.without(frames[i])
		if got := slices.Collect(s.each); !slices.Equal(got, frames[i+1:]) || len(s) != words {
			t.Errorf("20.2: %v in %d words; want %v in %d", got, len(s), frames[i+1:], words)
		}
	}
}

// heap is how many bytes live.
func heap() uint64 {
	runtime.GC()
	var s runtime.MemStats
	runtime.ReadMemStats(&s)
	return s.HeapAlloc
}

// TestLight: of digests whose frames are gone nothing is kept.
func TestLight(t *testing.T) {
	const most = 1 << 20
	m, _ := phys.New(1)
	x, _ := New(m)
	before := heap()
	for i := range uint64(1 << 16) {
		m.Write(0, 8, i)
		if x.Add(0) != api.OK || x.Drop(0) != api.OK {
			t.Fatal("20.1: Add, Drop")
		}
	}
	if now := heap(); now > before+most {
		t.Errorf("20.1: frames that are gone take %d bytes", now-before)
	}
	if len(x.sums) != 0 || len(x.frames) != 0 {
		t.Errorf("20.1: %d frames and %d digests of none", len(x.sums), len(x.frames))
	}
}
