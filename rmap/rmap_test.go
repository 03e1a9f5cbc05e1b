package rmap_test

import (
	"math"
	"slices"
	"testing"

	"demesne/api"
	"demesne/rmap"
)

// noFrames are numbers that are no frame's, those among them whose low bits are.
var noFrames = []int{-1, -2, -5, -4096, -1 << 20, -1 << 32, -1<<32 + 5, math.MinInt, math.MinInt + 1, math.MinInt + 5}

// edgeFrames rise.
var edgeFrames = []int{0, 1, 2, 5, 4095, 4096, 1<<20 - 1, 1 << 20, 1<<31 - 1, 1 << 31, 1 << 32, 1<<32 + 5, 1 << 40, math.MaxInt - 1, math.MaxInt}

// edgePlaces stand by Guest, then Page; neighbours are alike in one of the two, or have them the other way round.
var edgePlaces = []api.Place{
	{Guest: math.MinInt, Page: 0}, {Guest: math.MinInt, Page: math.MaxUint64},
	{Guest: -1 << 32, Page: 7},
	{Guest: -3, Page: 9}, {Guest: -1, Page: 0}, {Guest: -1, Page: 1},
	{Guest: 0, Page: 0}, {Guest: 0, Page: 1}, {Guest: 0, Page: math.MaxUint64},
	{Guest: 1, Page: 0}, {Guest: 1, Page: 2}, {Guest: 1, Page: 1<<28 - 1}, {Guest: 1, Page: 1 << 28}, {Guest: 1, Page: 1 << 32}, {Guest: 1, Page: 1<<63 - 1}, {Guest: 1, Page: 1 << 63}, {Guest: 1, Page: math.MaxUint64},
	{Guest: 2, Page: 0}, {Guest: 2, Page: 1}, {Guest: 2, Page: 7},
	{Guest: 7, Page: 2}, {Guest: 255, Page: 1}, {Guest: 256, Page: 1},
	{Guest: 1 << 32, Page: 1}, {Guest: math.MaxInt, Page: 0}, {Guest: math.MaxInt, Page: math.MaxUint64},
}

func place(guest int, page uint64) api.Place { return api.Place{Guest: guest, Page: page} }

func add(t *testing.T, m *rmap.Map, frame int, list ...api.Place) {
	t.Helper()
	for _, p := range list {
		if e := m.Add(frame, p); e != api.OK {
			t.Fatalf("17.1: Add(%d, %v): %d", frame, p, e)
		}
	}
}

func drop(t *testing.T, m *rmap.Map, frame int, list ...api.Place) {
	t.Helper()
	for _, p := range list {
		if e := m.Drop(frame, p); e != api.OK {
			t.Fatalf("17.1: Drop(%d, %v): %d", frame, p, e)
		}
	}
}

// stands fails the test if the frame is not used by just these places, which stand in order.
func stands(t *testing.T, m *rmap.Map, frame int, want ...api.Place) {
	t.Helper()
	if l := m.List(frame); !slices.Equal(l, want) {
		t.Fatalf("17.2: List(%d): %v; want %v", frame, l, want)
	}
	for _, p := range slices.Concat(edgePlaces, want) {
		if has := m.Has(frame, p); has != slices.Contains(want, p) {
			t.Fatalf("17.1: Has(%d, %v): %v", frame, p, has)
		}
	}
	if used := slices.Contains(m.Frames(), frame); used != (len(want) > 0) {
		t.Fatalf("17.2: Frames: %v; with %d: %v", m.Frames(), frame, used)
	}
}

func frames(t *testing.T, m *rmap.Map, want ...int) {
	t.Helper()
	if l := m.Frames(); !slices.Equal(l, want) {
		t.Fatalf("17.2: Frames: %v; want %v", l, want)
	}
}

func TestNew(t *testing.T) {
	m := rmap.New()
	frames(t, m)
	for _, frame := range slices.Concat(edgeFrames, noFrames) {
		stands(t, m, frame)
	}
}

func TestAddNoFrame(t *testing.T) {
	m := rmap.New()
	add(t, m, 5, place(2, 7))
	for _, frame := range noFrames {
		for _, p := range edgePlaces {
			if e := m.Add(frame, p); e != api.ErrArg {
				t.Errorf("17.1: Add(%d, %v): %d", frame, p, e)
			}
			if e := m.Drop(frame, p); e != api.ErrNone {
				t.Errorf("17.1: Drop(%d, %v): %d", frame, p, e)
			}
		}
		stands(t, m, frame)
	}
	frames(t, m, 5)
	stands(t, m, 5, place(2, 7))
}

func TestAddThere(t *testing.T) {
	m := rmap.New()
	for _, frame := range edgeFrames {
		add(t, m, frame, edgePlaces...)
		for _, p := range edgePlaces {
			if e := m.Add(frame, p); e != api.ErrThere {
				t.Errorf("17.1: Add(%d, %v) anew: %d", frame, p, e)
			}
		}
		stands(t, m, frame, edgePlaces...)
	}
	frames(t, m, edgeFrames...)
}

// TestAddOne: what uses a frame uses no other one, and no neighbour of it uses that frame.
func TestAddOne(t *testing.T) {
	for _, frame := range edgeFrames {
		for _, p := range edgePlaces {
			m := rmap.New()
			add(t, m, frame, p)
			frames(t, m, frame)
			for _, other := range slices.Concat(edgeFrames, noFrames) {
				if other == frame {
					stands(t, m, other, p)
				} else {
					stands(t, m, other)
				}
			}
		}
	}
}

func TestDrop(t *testing.T) {
	for i, p := range edgePlaces {
		m := rmap.New()
		add(t, m, 5, edgePlaces...)
		add(t, m, 6, p)
		drop(t, m, 5, p)
		stands(t, m, 5, slices.Delete(slices.Clone(edgePlaces), i, i+1)...)
		stands(t, m, 6, p)
		if e := m.Drop(5, p); e != api.ErrNone {
			t.Errorf("17.1: Drop(5, %v) again: %d", p, e)
		}
		frames(t, m, 5, 6)
		drop(t, m, 6, p)
		stands(t, m, 6)
		frames(t, m, 5)
		add(t, m, 5, p)
		stands(t, m, 5, edgePlaces...)
	}
}

// TestDropNone: what does not use the frame is refused, and nothing changes by it.
func TestDropNone(t *testing.T) {
	m := rmap.New()
	add(t, m, 5, place(2, 7), place(1, 9))
	add(t, m, 7, place(3, 3))
	for _, c := range []struct {
		frame int
		p     api.Place
	}{{5, place(7, 2)}, {5, place(2, 8)}, {5, place(1, 7)}, {5, place(2, 9)}, {5, place(3, 3)}, {5, place(0, 0)}, {5, place(2, 1<<32+7)}, {5, place(1<<32+2, 7)}, {6, place(2, 7)}, {7, place(2, 7)}, {1<<32 + 5, place(2, 7)}, {0, place(0, 0)}} {
		if e := m.Drop(c.frame, c.p); e != api.ErrNone || m.Has(c.frame, c.p) {
			t.Errorf("17.1: Drop(%d, %v): %d", c.frame, c.p, e)
		}
	}
	stands(t, m, 5, place(1, 9), place(2, 7))
	stands(t, m, 7, place(3, 3))
	frames(t, m, 5, 7)
}

// TestDropAll: a frame is used till its last place is dropped, whichever that is.
func TestDropAll(t *testing.T) {
	for last := range edgePlaces {
		m := rmap.New()
		add(t, m, 0, edgePlaces...)
		add(t, m, 1, place(1, 1))
		for i, p := range edgePlaces {
			if i != last {
				drop(t, m, 0, p)
			}
		}
		stands(t, m, 0, edgePlaces[last])
		frames(t, m, 0, 1)
		drop(t, m, 0, edgePlaces[last])
		stands(t, m, 0)
		frames(t, m, 1)
		add(t, m, 0, place(2, 2))
		stands(t, m, 0, place(2, 2))
		frames(t, m, 0, 1)
	}
}

// TestEveryOrder: of few places and frames, each order in which they come is told as the same one.
func TestEveryOrder(t *testing.T) {
	list := []api.Place{place(-1, 5), place(1, 0), place(1, 9), place(2, 7), place(7, 2)}
	nums := []int{0, 3, 4, 1 << 20, 1 << 40}
	everyOrder(len(list), func(order []int) {
		m := rmap.New()
		for _, i := range order {
			add(t, m, 5, list[i])
			add(t, m, nums[i], list[0])
		}
		stands(t, m, 5, list...)
		frames(t, m, 0, 3, 4, 5, 1<<20, 1<<40)
		for gone, i := range order {
			drop(t, m, 5, list[i])
			var left []api.Place
			for j, p := range list {
				if !slices.Contains(order[:gone+1], j) {
					left = append(left, p)
				}
			}
			stands(t, m, 5, left...)
		}
		frames(t, m, nums...)
	})
}

// everyOrder hands each order of 0 to n - 1 to see.
func everyOrder(n int, see func(order []int)) {
	var grow func(order []int)
	grow = func(order []int) {
		if len(order) == n {
			see(order)
		}
		for i := range n {
			if !slices.Contains(order, i) {
				grow(append(slices.Clip(order), i))
			}
		}
	}
	grow(nil)
}

// TestToldApart: lists that were told are their caller's, their spare room too, and do not follow what comes.
func TestToldApart(t *testing.T) {
	m := rmap.New()
	want := edgePlaces[:9]
	add(t, m, 5, want...)
	add(t, m, 9, want...)
	first, second, nums := m.List(5), m.List(5), m.Frames()
	spoil(first, place(99, 99))
	spoil(nums, 99)
	if !slices.Equal(second, want) {
		t.Errorf("17.2: a list changed with another one: %v", second)
	}
	stands(t, m, 5, want...)
	stands(t, m, 9, want...)
	frames(t, m, 5, 9)
	told := m.Frames()
	drop(t, m, 5, want...)
	add(t, m, 5, place(3, 3))
	add(t, m, 1, place(3, 3))
	drop(t, m, 9, want...)
	if !slices.Equal(second, want) || !slices.Equal(told, []int{5, 9}) {
		t.Errorf("17.2: told lists changed: %v, %v", second, told)
	}
	frames(t, m, 1, 5)
}

// spoil writes v all over the list and its spare room.
func spoil[T any](list []T, v T) {
	list = list[:cap(list)]
	for i := range list {
		list[i] = v
	}
}

// TestApart: what one map is given the other does not know of.
func TestApart(t *testing.T) {
	m, n := rmap.New(), rmap.New()
	add(t, m, 5, place(2, 7))
	stands(t, n, 5)
	if e := n.Drop(5, place(2, 7)); e != api.ErrNone {
		t.Errorf("17.1: Drop of what another map has: %d", e)
	}
	add(t, n, 5, place(2, 7), place(1, 1))
	drop(t, n, 5, place(2, 7))
	stands(t, m, 5, place(2, 7))
	stands(t, n, 5, place(1, 1))
}

func TestExample(t *testing.T) {
	m := rmap.New()
	add(t, m, 5, place(2, 7), place(1, 9))
	stands(t, m, 5, place(1, 9), place(2, 7))
}
