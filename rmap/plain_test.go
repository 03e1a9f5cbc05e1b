package rmap_test

import (
	"math/rand"
	"slices"
	"testing"

	"demesne/api"
	"demesne/rmap"
)

// use is one place's use of one frame.
type use struct {
	frame int
	p     api.Place
}

// plain is a Map read from the chapter word by word: uses, as they came.
type plain []use

func (l *plain) add(u use) api.Errno {
	switch {
	case u.frame < 0:
		return api.ErrArg
	case slices.Contains(*l, u):
		return api.ErrThere
	}
	*l = append(*l, u)
	return api.OK
}

func (l *plain) drop(u use) api.Errno {
	at := slices.Index(*l, u)
	if at < 0 {
		return api.ErrNone
	}
	*l = slices.Delete(*l, at, at+1)
	return api.OK
}

// list puts each place where the first greater one stands.
func (l plain) list(frame int) []api.Place {
	var list []api.Place
	for _, u := range l {
		if u.frame != frame {
			continue
		}
		at := 0
		for at < len(list) && (list[at].Guest < u.p.Guest || list[at].Guest == u.p.Guest && list[at].Page < u.p.Page) {
			at++
		}
		list = slices.Insert(list, at, u.p)
	}
	return list
}

func (l plain) frames() []int {
	var list []int
	for _, u := range l {
		if !slices.Contains(list, u.frame) {
			list = append(list, u.frame)
		}
	}
	slices.Sort(list)
	return list
}

// draw is a use of few frames, guests and pages, so that many are there already; some frames are none.
func draw(r *rand.Rand, few int) use {
	return use{r.Intn(few+1) - 1, place(r.Intn(few)-few/2, uint64(r.Intn(few))<<(r.Intn(2)*63))}
}

// step makes one call of both, drawn by r, and tells what it was and whether they answered alike.
func step(r *rand.Rand, m *rmap.Map, l *plain, few, drops int) (string, bool) {
	u := draw(r, few)
	switch {
	case r.Intn(6) == 0:
		return "17.1: Has", m.Has(u.frame, u.p) == slices.Contains(*l, u)
	case r.Intn(10) < drops:
		return "17.1: Drop", m.Drop(u.frame, u.p) == l.drop(u)
	}
	return "17.1: Add", m.Add(u.frame, u.p) == l.add(u)
}

func TestAgainstPlain(t *testing.T) {
	r := rand.New(rand.NewSource(17))
	for few := 1; few <= 7; few++ {
		for _, drops := range []int{2, 5, 8} {
			m, l := rmap.New(), plain{}
			for range 500 {
				if what, alike := step(r, m, &l, few, drops); !alike {
					t.Fatalf("%s: not as the chapter has it", what)
				}
				frames(t, m, l.frames()...)
				for frame := -1; frame <= few; frame++ {
					if told, want := m.List(frame), l.list(frame); !slices.Equal(told, want) {
						t.Fatalf("17.3: List(%d): %v; want %v", frame, told, want)
					}
				}
			}
		}
	}
}

// TestMany: as many frames as a machine has, and one that all its guests use.
func TestMany(t *testing.T) {
	r := rand.New(rand.NewSource(71))
	m := rmap.New()
	for _, frame := range r.Perm(api.MaxFrames) {
		if e := m.Add(frame, place(frame%api.MaxGuests+1, uint64(frame))); e != api.OK {
			t.Fatalf("17.1: Add of the frame %d: %d", frame, e)
		}
	}
	told := m.Frames()
	if len(told) != api.MaxFrames {
		t.Fatalf("17.2: %d frames", len(told))
	}
	for frame, is := range told {
		if is != frame {
			t.Fatalf("17.2: frame %d: %d", frame, is)
		}
	}
	const each = 1 << 10
	for _, i := range r.Perm(api.MaxGuests * each) {
		if e := m.Add(api.MaxFrames, place(i/each+1, uint64(i%each))); e != api.OK {
			t.Fatalf("17.1: Add: %d", e)
		}
	}
	list := m.List(api.MaxFrames)
	if len(list) != api.MaxGuests*each {
		t.Fatalf("17.2: %d places", len(list))
	}
	for i, p := range list {
		if p != place(i/each+1, uint64(i%each)) {
			t.Fatalf("17.2: %d: %v", i, p)
		}
	}
	for frame := range api.MaxFrames {
		if e := m.Drop(frame, place(frame%api.MaxGuests+1, uint64(frame))); e != api.OK {
			t.Fatalf("17.1: Drop of the frame %d: %d", frame, e)
		}
	}
	frames(t, m, api.MaxFrames)
}
