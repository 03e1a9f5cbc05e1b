package index_test

import (
	"bytes"
	"math/rand"
	"slices"
	"testing"

	"demesne/api"
	"demesne/digest"
	"demesne/index"
	"demesne/phys"
)

// plain is an index read from the chapter word by word: frames with their digests, as they came.
type plain struct {
	m    *phys.Mem
	list []entry
}

type entry struct {
	frame int
	sum   complex128
}

func (l *plain) at(frame int) int {
	return slices.IndexFunc(l.list, func(e entry) bool { return e.frame == frame })
}

func (l *plain) add(frame int) api.Errno {
	switch {
	case frame < 0 || frame >= l.m.Frames():
		return api.ErrRange
	case l.at(frame) >= 0:
		return api.ErrThere
	}
	p, _ := l.m.Get(frame)
	sum, _ := digest.Of(p)
	l.list = append(l.list, entry{frame, sum})
	return api.OK
}

func (l *plain) drop(frame int) api.Errno {
	at := l.at(frame)
	if at < 0 {
		return api.ErrNone
	}
	l.list = slices.Delete(l.list, at, at+1)
	return api.OK
}

// find goes through all frames of the memory, the least first.
func (l *plain) find(p []byte, not int) (int, bool) {
	sum, e := digest.Of(p)
	for frame := range l.m.Frames() {
		at := l.at(frame)
		if e != api.OK || at < 0 || frame == not || l.list[at].sum != sum {
			continue
		}
		if now, _ := l.m.Get(frame); bytes.Equal(now, p) {
			return frame, true
		}
	}
	return 0, false
}

// alike tells each group at the first of its frames.
func (l *plain) alike() [][]int {
	var groups [][]int
	for first := range l.m.Frames() {
		var group []int
		for frame := range l.m.Frames() {
			a, b := l.at(first), l.at(frame)
			if a >= 0 && b >= 0 && l.list[a].sum == l.list[b].sum {
				group = append(group, frame)
			}
		}
		if len(group) > 1 && group[0] == first {
			groups = append(groups, group)
		}
	}
	return groups
}

// step makes one call of both, drawn by r, and tells what it was and whether they answered alike.
func step(r *rand.Rand, x *index.Index, l *plain, pages [][]byte, drops int) (string, bool) {
	frame := r.Intn(l.m.Frames()+2) - 1
	switch {
	case r.Intn(3) == 0:
		l.m.Set(frame, pages[r.Intn(len(pages))])
		return "5.2: Set", true
	case r.Intn(10) < drops:
		return "20.1: Drop", x.Drop(frame) == l.drop(frame)
	}
	return "20.1: Add", x.Add(frame) == l.add(frame)
}

// holds fails the test if the index tells otherwise than the chapter has it.
func holds(t *testing.T, r *rand.Rand, x *index.Index, l *plain, pages [][]byte) {
	t.Helper()
	if x.Count() != len(l.list) {
		t.Fatalf("20.1: Count: %d; want %d", x.Count(), len(l.list))
	}
	for frame := -1; frame <= l.m.Frames(); frame++ {
		if x.Has(frame) != (l.at(frame) >= 0) {
			t.Fatalf("20.1: Has(%d): %v", frame, x.Has(frame))
		}
	}
	for i, p := range pages {
		not := r.Intn(l.m.Frames()+2) - 1
		frame, ok := x.Find(p, not)
		if want, is := l.find(p, not); frame != want || ok != is {
			t.Fatalf("20.2: Find of page %d but %d: %d, %v; want %d, %v", i, not, frame, ok, want, is)
		}
		if now, _ := l.m.Get(frame); ok && !bytes.Equal(now, p) {
			t.Fatalf("20.3: Find of page %d: %d, which is unlike it", i, frame)
		}
	}
	if got, want := x.Alike(), l.alike(); !slices.EqualFunc(got, want, slices.Equal) {
		t.Fatalf("20.2: Alike: %v; want %v", got, want)
	}
}

func TestAgainstPlain(t *testing.T) {
	pages := append(oneSum(t), page(), page(0, 1), page(511, 1<<63), page()[1:])
	r := rand.New(rand.NewSource(20))
	for _, frames := range []int{1, 2, 3, 9, 70} {
		for _, drops := range []int{2, 5, 8} {
			m, x := made(t, frames)
			l := &plain{m: m}
			for i := range 900 {
				if what, ok := step(r, x, l, pages, drops); !ok {
					t.Fatalf("%s: step %d of %d frames: not as the chapter has it", what, i, frames)
				}
				if i%(frames/9+1) == 0 {
					holds(t, r, x, l, pages)
				}
			}
		}
	}
}

// TestUnchangedIsFound: each frame that was not changed since it was added is found by its bytes, as itself or as a lesser one that is alike.
func TestUnchangedIsFound(t *testing.T) {
	const frames = 200
	r := rand.New(rand.NewSource(3))
	m, x := made(t, frames)
	for _, frame := range r.Perm(frames) {
		p := make([]byte, api.FrameSize)
		r.Read(p[r.Intn(len(p)):])
		set(t, m, p, frame)
		if r.Intn(4) == 0 && frame > 0 {
			before, _ := m.Get(frame - 1)
			set(t, m, before, frame)
		}
	}
	add(t, x, r.Perm(frames)...)
	for frame := range frames {
		p, _ := m.Get(frame)
		least := 0
		for !m.Same(least, frame) {
			least++
		}
		finds(t, x, p, -1, least)
	}
}

// TestMany: all frames of a great memory are noughts, and come falling or jumbled.
func TestMany(t *testing.T) {
	const many = 1 << 17
	orders := [][]int{rand.New(rand.NewSource(7)).Perm(many), make([]int, many)}
	for i := range many {
		orders[1][i] = api.MaxFrames - 1 - i
	}
	for _, order := range orders {
		m, x := made(t, api.MaxFrames)
		add(t, x, order...)
		group := x.Alike()
		if x.Count() != many || len(group) != 1 || !slices.Equal(group[0], slices.Sorted(slices.Values(order))) {
			t.Fatalf("20.2: Alike: %d groups of %d frames", len(group), x.Count())
		}
		least, last := group[0][0], group[0][many-1]
		finds(t, x, page(), -1, least)
		for _, frame := range group[0] {
			if frame != last {
				m.Write(uint64(frame)*api.FrameSize, 8, 1)
			}
		}
		finds(t, x, page(), -1, last)
		findsNone(t, x, page(), last)
		findsNone(t, x, page(0, 1), -1)
		drop(t, x, order...)
		in(t, x)
		alike(t, x)
		findsNone(t, x, page(), -1)
	}
}
