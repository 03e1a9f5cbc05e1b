package index_test

import (
	"bytes"
	"encoding/binary"
	"math"
	"slices"
	"testing"

	"demesne/api"
	"demesne/digest"
	"demesne/index"
	"demesne/phys"
)

// noFrames are numbers that are no frame's of any memory, those among them whose low bits are.
var noFrames = []int{-1, -2, -5, -63, -64, -65, -4096, -1 << 32, -1<<32 + 5, math.MinInt, math.MinInt + 5, api.MaxFrames, api.MaxFrames + 5, 1 << 31, 1 << 32, 1<<32 + 5, 1 << 52, 1<<52 + 5, math.MaxInt - 1, math.MaxInt}

// memory is one of so many frames, all 0.
func memory(t *testing.T, frames int) *phys.Mem {
	t.Helper()
	m, e := phys.New(frames)
	if e != api.OK {
		t.Fatalf("New(%d) of the memory: %d", frames, e)
	}
	return m
}

// made is a memory of so many frames, and an index of it.
func made(t *testing.T, frames int) (*phys.Mem, *index.Index) {
	t.Helper()
	m := memory(t, frames)
	x, e := index.New(m)
	if e != api.OK || x == nil {
		t.Fatalf("20.1: New: %v, %d", x, e)
	}
	return m, x
}

// page is noughts but for these words, given as places and values.
func page(words ...uint64) []byte {
	p := make([]byte, api.FrameSize)
	for i := 0; i < len(words); i += 2 {
		binary.LittleEndian.PutUint64(p[8*words[i]:], words[i+1])
	}
	return p
}

// set makes p the bytes of these frames.
func set(t *testing.T, m *phys.Mem, p []byte, frames ...int) {
	t.Helper()
	for _, frame := range frames {
		if e := m.Set(frame, p); e != api.OK {
			t.Fatalf("Set(%d) of the memory: %d", frame, e)
		}
	}
}

func add(t *testing.T, x *index.Index, frames ...int) {
	t.Helper()
	for _, frame := range frames {
		if e := x.Add(frame); e != api.OK {
			t.Fatalf("20.1: Add(%d): %d", frame, e)
		}
	}
}

func drop(t *testing.T, x *index.Index, frames ...int) {
	t.Helper()
	for _, frame := range frames {
		if e := x.Drop(frame); e != api.OK {
			t.Fatalf("20.1: Drop(%d): %d", frame, e)
		}
	}
}

// finds fails the test if Find tells another frame.
func finds(t *testing.T, x *index.Index, p []byte, not, want int) {
	t.Helper()
	if frame, ok := x.Find(p, not); frame != want || !ok {
		t.Fatalf("20.2: Find but %d: %d, %v; want %d", not, frame, ok, want)
	}
}

// findsNone fails the test if Find tells a frame.
func findsNone(t *testing.T, x *index.Index, p []byte, not int) {
	t.Helper()
	if frame, ok := x.Find(p, not); frame != 0 || ok {
		t.Fatalf("20.2: Find but %d: %d, %v; want none", not, frame, ok)
	}
}

// alike fails the test if Alike tells other groups.
func alike(t *testing.T, x *index.Index, want ...[]int) {
	t.Helper()
	if got := x.Alike(); !slices.EqualFunc(got, want, slices.Equal) {
		t.Fatalf("20.2: Alike: %v; want %v", got, want)
	}
}

// in fails the test if other frames are in.
func in(t *testing.T, x *index.Index, want ...int) {
	t.Helper()
	if n := x.Count(); n != len(want) {
		t.Fatalf("20.1: Count: %d; want %d", n, len(want))
	}
	for frame := -2; frame < 300; frame++ {
		if x.Has(frame) != slices.Contains(want, frame) {
			t.Fatalf("20.1: Has(%d): %v", frame, x.Has(frame))
		}
	}
	for _, frame := range slices.Concat(want, noFrames) {
		if x.Has(frame) != slices.Contains(want, frame) {
			t.Fatalf("20.1: Has(%d): %v", frame, x.Has(frame))
		}
	}
}

func TestNew(t *testing.T) {
	if x, e := index.New(nil); x != nil || e != api.ErrArg {
		t.Errorf("20.1: New(nil): %v, %d", x, e)
	}
	for _, frames := range []int{1, 2, api.MaxFrames} {
		_, x := made(t, frames)
		in(t, x)
		alike(t, x)
		for _, not := range []int{-1, 0, 1} {
			findsNone(t, x, page(), not)
		}
		if e := x.Drop(0); e != api.ErrNone {
			t.Errorf("20.1: Drop(0) of an empty index: %d", e)
		}
	}
}

func TestExample(t *testing.T) {
	_, x := made(t, 2)
	add(t, x, 0, 1)
	finds(t, x, page(), 0, 1)
}

// TestAddNoFrame: a number that is no frame's is refused, and nothing changes by it.
func TestAddNoFrame(t *testing.T) {
	for _, frames := range []int{1, 6, 64, 65, 128, api.MaxFrames} {
		m, x := made(t, frames)
		set(t, m, page(3, 7), frames-1)
		add(t, x, frames-1)
		for _, frame := range append([]int{frames, frames + 1, frames + 64}, noFrames...) {
			if e := x.Add(frame); e != api.ErrRange {
				t.Errorf("20.1: Add(%d) of %d: %d", frame, frames, e)
			}
			if e := x.Drop(frame); e != api.ErrNone {
				t.Errorf("20.1: Drop(%d) of %d: %d", frame, frames, e)
			}
			if x.Has(frame) {
				t.Errorf("20.1: Has(%d) of %d", frame, frames)
			}
		}
		in(t, x, frames-1)
		alike(t, x)
		finds(t, x, page(3, 7), -1, frames-1)
		findsNone(t, x, page(), -1)
	}
}

// TestAddThere: a frame that is in keeps the digest with which it was added.
func TestAddThere(t *testing.T) {
	m, x := made(t, 4)
	add(t, x, 2, 0)
	set(t, m, page(0, 9), 2, 3)
	for range 2 {
		if e := x.Add(2); e != api.ErrThere {
			t.Errorf("20.1: Add(2) anew: %d", e)
		}
	}
	in(t, x, 0, 2)
	alike(t, x, []int{0, 2})
	findsNone(t, x, page(0, 9), -1)
	add(t, x, 3)
	finds(t, x, page(0, 9), -1, 3)
	alike(t, x, []int{0, 2})
}

func TestDrop(t *testing.T) {
	m, x := made(t, 70)
	set(t, m, page(1, 1), 3, 5, 69)
	frames := []int{0, 3, 5, 63, 64, 69}
	add(t, x, frames...)
	alike(t, x, []int{0, 63, 64}, []int{3, 5, 69})
	for _, frame := range []int{1, 2, 4, 6, 62, 65, 67, 68} {
		if e := x.Drop(frame); e != api.ErrNone {
			t.Errorf("20.1: Drop(%d): %d", frame, e)
		}
	}
	in(t, x, frames...)
	drop(t, x, 3)
	if e := x.Drop(3); e != api.ErrNone {
		t.Errorf("20.1: Drop(3) again: %d", e)
	}
	in(t, x, 0, 5, 63, 64, 69)
	finds(t, x, page(1, 1), -1, 5)
	alike(t, x, []int{0, 63, 64}, []int{5, 69})
	drop(t, x, 5, 63)
	alike(t, x, []int{0, 64})
	finds(t, x, page(1, 1), -1, 69)
	drop(t, x, 69, 0, 64)
	in(t, x)
	alike(t, x)
	findsNone(t, x, page(1, 1), -1)
	findsNone(t, x, page(), -1)
	add(t, x, 69, 3)
	in(t, x, 3, 69)
	alike(t, x, []int{3, 69})
	finds(t, x, page(1, 1), 3, 69)
}

// TestDropOfAChanged: a frame leaves the group in which it is, whatever its bytes are by now.
func TestDropOfAChanged(t *testing.T) {
	m, x := made(t, 5)
	set(t, m, page(2, 2), 3, 4)
	add(t, x, 0, 1, 2, 3, 4)
	set(t, m, page(2, 2), 1)
	set(t, m, page(), 3)
	drop(t, x, 1)
	alike(t, x, []int{0, 2}, []int{3, 4})
	drop(t, x, 3)
	alike(t, x, []int{0, 2})
	in(t, x, 0, 2, 4)
	add(t, x, 1, 3)
	alike(t, x, []int{0, 2, 3}, []int{1, 4})
	finds(t, x, page(2, 2), -1, 1)
	finds(t, x, page(), 0, 2)
}

// TestFindLeast: of frames that are alike the least one is found, in whichever order they came.
func TestFindLeast(t *testing.T) {
	frames := []int{1, 2, 62, 63, 64, 65, 127, 128, 191, 4095, 4096, api.MaxFrames - 1}
	for turn := range len(frames) {
		for _, back := range []bool{false, true} {
			order := slices.Concat(frames[turn:], frames[:turn])
			if back {
				slices.Reverse(order)
			}
			m, x := made(t, api.MaxFrames)
			set(t, m, page(511, math.MaxUint64), frames...)
			add(t, x, order...)
			alike(t, x, frames)
			p := page(511, math.MaxUint64)
			for i, frame := range frames {
				finds(t, x, p, -1, frame)
				finds(t, x, p, 0, frame)
				if i+1 < len(frames) {
					finds(t, x, p, frame, frames[i+1])
					finds(t, x, p, frames[i+1], frame)
				} else {
					findsNone(t, x, p, frame)
				}
				drop(t, x, frame)
			}
			findsNone(t, x, p, -1)
		}
	}
}

// TestFindNot: whatever not is, no other frame than that one is left out.
func TestFindNot(t *testing.T) {
	m, x := made(t, 200)
	set(t, m, page(7, 7), 0, 64, 128)
	add(t, x, 128, 64, 0, 1)
	for _, not := range slices.Concat(noFrames, []int{1, 2, 63, 65, 128, 192}) {
		finds(t, x, page(7, 7), not, 0)
	}
	finds(t, x, page(7, 7), 0, 64)
	finds(t, x, page(7, 7), 64, 0)
	finds(t, x, page(), 0, 1)
	findsNone(t, x, page(), 1)
	drop(t, x, 0)
	finds(t, x, page(7, 7), 0, 64)
	finds(t, x, page(7, 7), 64, 128)
	drop(t, x, 64)
	findsNone(t, x, page(7, 7), 128)
}

// TestFindNotThere: frames that are alike but not in are not found.
func TestFindNotThere(t *testing.T) {
	m, x := made(t, 8)
	set(t, m, page(9, 9), 2, 3)
	add(t, x, 0, 3)
	finds(t, x, page(9, 9), -1, 3)
	findsNone(t, x, page(9, 9), 3)
	finds(t, x, page(), -1, 0)
	findsNone(t, x, page(), 0)
}

func TestFindOfNoPage(t *testing.T) {
	_, x := made(t, 2)
	add(t, x, 0, 1)
	noughts := make([]byte, 2*api.FrameSize)
	for _, n := range []int{0, 1, 8, 2048, 4088, 4095, 4097, 4104, 8192} {
		findsNone(t, x, noughts[:n], -1)
	}
	findsNone(t, x, nil, -1)
	findsNone(t, x, nil, 0)
	finds(t, x, noughts[:api.FrameSize], -1, 0)
}

// TestFindEachByte: a page that differs in one byte, wherever it is, isn't found.
func TestFindEachByte(t *testing.T) {
	m, x := made(t, 3)
	p := make([]byte, api.FrameSize)
	for i := range p {
		p[i] = byte(i%251 + 1)
	}
	set(t, m, p, 1)
	add(t, x, 0, 1, 2)
	for at := range p {
		p[at]++
		findsNone(t, x, p, -1)
		p[at]--
	}
	finds(t, x, p, -1, 1)
}

// oneSum is pages of one digest, unlike each other.
func oneSum(t *testing.T) [][]byte {
	t.Helper()
	pages := [][]byte{page(1, 5), page(5, 5), page(1, 2, 5, 3), page(1, 6, 3, 1), page(1, 5, 7, 1<<40, 511, 1<<40, 9, 2<<40), page(1, 5, 510, 4, 508, 4)}
	for _, p := range pages {
		if z, e := digest.Of(p); z != 5i || e != api.OK {
			t.Fatalf("3.1: %v, %d", z, e)
		}
	}
	return pages
}

// TestOneSum: of frames of one digest those are found whose bytes are alike.
func TestOneSum(t *testing.T) {
	pages := oneSum(t)
	m, x := made(t, 20)
	var all []int
	for i, p := range pages {
		set(t, m, p, 19-i, 12-i)
		add(t, x, 19-i, 12-i)
		all = append(all, 19-i, 12-i)
	}
	slices.Sort(all)
	alike(t, x, all)
	for i, p := range pages {
		finds(t, x, p, -1, 12-i)
		finds(t, x, p, 12-i, 19-i)
		drop(t, x, 12-i)
		findsNone(t, x, p, 19-i)
	}
}

// TestFindByDigestAndBytes: a frame that was changed is found if it has both, the digest with which it was added and the bytes.
func TestFindByDigestAndBytes(t *testing.T) {
	pages := oneSum(t)
	m, x := made(t, 3)
	set(t, m, pages[0], 1, 2)
	add(t, x, 1, 2)
	set(t, m, pages[1], 1)
	finds(t, x, pages[0], -1, 2)
	finds(t, x, pages[1], -1, 1)
	findsNone(t, x, pages[1], 1)
	set(t, m, page(8, 8), 1)
	finds(t, x, pages[0], -1, 2)
	findsNone(t, x, page(8, 8), -1)
	findsNone(t, x, pages[1], -1)
	alike(t, x, []int{1, 2})
	set(t, m, pages[0], 1)
	finds(t, x, pages[0], -1, 1)
	m.Zero(1)
	finds(t, x, pages[0], -1, 2)
	findsNone(t, x, page(), -1)
	drop(t, x, 1)
	add(t, x, 1)
	finds(t, x, page(), -1, 1)
	alike(t, x)
}

// TestChangedByAWrite: one byte of a frame is enough.
func TestChangedByAWrite(t *testing.T) {
	for _, at := range []uint64{0, 1, 7, 8, 2047, 4088, 4095} {
		m, x := made(t, 3)
		add(t, x, 0, 1, 2)
		m.Write(api.FrameSize+at, 1, 1)
		finds(t, x, page(), 0, 2)
		p := make([]byte, api.FrameSize)
		p[at] = 1
		findsNone(t, x, p, -1)
		m.Write(api.FrameSize+at, 1, 0)
		finds(t, x, page(), 0, 1)
	}
}

func TestAlike(t *testing.T) {
	m, x := made(t, 300)
	set(t, m, page(0, 1), 299, 2, 64)
	set(t, m, page(0, 2), 7)
	set(t, m, page(0, 3), 1, 200)
	set(t, m, page(1, 3), 130, 131, 129, 128)
	set(t, m, page(0, 4), 298)
	add(t, x, 131, 299, 7, 200, 298, 130, 64, 1, 128, 2, 129)
	alike(t, x, []int{1, 200}, []int{2, 64, 299}, []int{128, 129, 130, 131})
	add(t, x, 250, 0)
	alike(t, x, []int{0, 250}, []int{1, 200}, []int{2, 64, 299}, []int{128, 129, 130, 131})
	drop(t, x, 2, 1, 128)
	alike(t, x, []int{0, 250}, []int{64, 299}, []int{129, 130, 131})
	drop(t, x, 0, 299, 129, 130)
	alike(t, x)
	in(t, x, 250, 64, 131, 7, 200, 298)
}

// TestAlikeTold: many groups are told by their first frames each time, whatever the order in a map is.
func TestAlikeTold(t *testing.T) {
	const groups = 60
	m, x := made(t, 2*groups)
	var want [][]int
	for i := range groups {
		set(t, m, page(uint64(i), uint64(i+1)), i, 2*groups-1-i)
		want = append(want, []int{i, 2*groups - 1 - i})
	}
	for frame := range 2 * groups {
		add(t, x, 2*groups-1-frame)
	}
	for range 20 {
		alike(t, x, want...)
	}
}

// TestToldApart: what Alike told is the caller's, spare room too, and does not follow what comes.
func TestToldApart(t *testing.T) {
	m, x := made(t, 9)
	set(t, m, page(0, 1), 1, 3, 5)
	add(t, x, 0, 1, 2, 3, 4, 5)
	first, second := x.Alike(), x.Alike()
	spoil(first[0], 77)
	if !slices.Equal(first[1], []int{1, 3, 5}) {
		t.Errorf("20.2: a group changed with another one: %v", first[1])
	}
	spoil(first, []int{88})
	drop(t, x, 4, 5)
	add(t, x, 6)
	if !slices.EqualFunc(second, [][]int{{0, 2, 4}, {1, 3, 5}}, slices.Equal) {
		t.Errorf("20.2: told groups changed: %v", second)
	}
	alike(t, x, []int{0, 2, 6}, []int{1, 3})
	finds(t, x, page(), 0, 2)
	in(t, x, 0, 1, 2, 3, 6)
}

// spoil writes v all over the list and its spare room.
func spoil[T any](list []T, v T) {
	list = list[:cap(list)]
	for i := range list {
		list[i] = v
	}
}

// TestLeavesThePage: a page that is handed in isn't changed, its spare room included, and not kept.
func TestLeavesThePage(t *testing.T) {
	m, x := made(t, 2)
	room := append(page(4, 4), 1, 2, 3)
	p := room[:api.FrameSize]
	set(t, m, p, 1)
	add(t, x, 0, 1)
	finds(t, x, p, -1, 1)
	if !bytes.Equal(room, append(page(4, 4), 1, 2, 3)) {
		t.Error("20.2: Find changed its page")
	}
	clear(p)
	finds(t, x, p, -1, 0)
	finds(t, x, page(4, 4), -1, 1)
}

// TestLeavesTheMemory: no call changes a byte of it, or reads or writes as a machine does.
func TestLeavesTheMemory(t *testing.T) {
	m, x := made(t, 3)
	set(t, m, page(4, 4), 1)
	add(t, x, 0, 1)
	x.Add(1)
	x.Add(3)
	finds(t, x, page(4, 4), -1, 1)
	finds(t, x, page(), -1, 0)
	alike(t, x)
	drop(t, x, 0)
	if p, _ := m.Get(1); !bytes.Equal(p, page(4, 4)) || !m.Clear(0) || !m.Clear(2) || m.Ops() != 0 || m.Frames() != 3 {
		t.Error("20.1: the memory changed")
	}
}

// TestApart: two indices of one memory, and of two memories, know nothing of each other.
func TestApart(t *testing.T) {
	m, x := made(t, 4)
	y, _ := index.New(m)
	other, z := made(t, 4)
	set(t, m, page(1, 1), 1, 2)
	add(t, x, 1, 2)
	in(t, y)
	findsNone(t, y, page(1, 1), -1)
	add(t, y, 2, 3)
	add(t, z, 1, 2)
	drop(t, x, 2)
	in(t, x, 1)
	in(t, y, 2, 3)
	finds(t, y, page(1, 1), -1, 2)
	findsNone(t, z, page(1, 1), -1)
	alike(t, x)
	alike(t, y)
	alike(t, z, []int{1, 2})
	set(t, other, page(1, 1), 1)
	findsNone(t, z, page(1, 1), -1)
	finds(t, z, page(), -1, 2)
}
