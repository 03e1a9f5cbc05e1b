package stage2_test

import (
	"bytes"
	"math"
	"slices"
	"testing"

	"demesne/api"
	"demesne/desc"
	"demesne/frames"
	"demesne/phys"
	"demesne/stage2"
	"demesne/walk"
)

const endPage = 1 << 28

var (
	none = api.Perm{}
	r    = api.Perm{R: true}
	rw   = api.Perm{R: true, W: true}
	rx   = api.Perm{R: true, X: true}
	rwx  = api.Perm{R: true, W: true, X: true}
	x    = api.Perm{X: true}
	// wrong are those that may be written and not read.
	wrong = []api.Perm{{W: true}, {W: true, X: true}}
)

// edgePages are pages at the edges of tables of each level.
var edgePages = []uint64{0, 1, 511, 512, 1023, 1<<18 - 1, 1 << 18, 1<<27 - 1, 1 << 27, 1<<27 + 1<<18, endPage - 512, endPage - 1}

// noPages are beyond; the indices of many of them are those of a page.
var noPages = []uint64{endPage, endPage + 1, endPage + 512, 1 << 29, 1 << 35, 1 << 36, 1<<36 + 1, 1 << 40, 1 << 51, 1 << 52, 1<<52 + 1, 1 << 63, math.MaxUint64 - 511, math.MaxUint64}

// oddFrames are frames of no memory.
var oddFrames = []int{-1, -2, -511, -512, api.MaxFrames, api.MaxFrames + 512, 1 << 32, 1<<32 + 1, 1 << 52, -1 << 52, math.MaxInt, math.MaxInt - 511, math.MinInt, math.MinInt + 512}

var oddSofts = []int{-1, -16, 16, 17, 32, 1 << 32, 1<<32 + 1, math.MaxInt, math.MinInt}

// made is a table over a memory of n frames, pool of which are for tables.
func made(t *testing.T, n, pool int) (*frames.Frames, *stage2.Table) {
	t.Helper()
	m, _ := phys.New(n)
	f, _ := frames.New(m, pool)
	s, e := stage2.New(f)
	if e != api.OK || s == nil {
		t.Fatalf("13.1: New: %v, %d", s, e)
	}
	return f, s
}

// is fails the test if a call did not answer want.
func is(t *testing.T, what string, got, want api.Errno) {
	t.Helper()
	if got != want {
		t.Fatalf("%s: %d; want %d", what, got, want)
	}
}

// unmapped fails the test if Unmap does not answer frame and want.
func unmapped(t *testing.T, s *stage2.Table, page uint64, frame int, want api.Errno) {
	t.Helper()
	if got, e := s.Unmap(page); got != frame || e != want {
		t.Fatalf("13.3: Unmap(%#x): %d, %d; want %d, %d", page, got, e, frame, want)
	}
}

// got fails the test if the page is not mapped so, as Get tells it and as a walk finds it.
func got(t *testing.T, f *frames.Frames, s *stage2.Table, want stage2.Leaf) {
	t.Helper()
	if l, ok := s.Get(want.Page); !ok || l != want {
		t.Fatalf("13.4: Get(%#x): %+v, %t; want %+v", want.Page, l, ok, want)
	}
	l, kind := walked(f, s, want.Page)
	if kind != api.NoFault {
		t.Fatalf("13.1: a walk to page %#x: %d", want.Page, kind)
	}
	end := l[len(l)-1]
	frame := int(walk.Out(want.Page*api.FrameSize, end) / api.FrameSize)
	if found := (stage2.Leaf{Page: want.Page, Frame: frame, Perm: end.Desc.Perm, Soft: end.Desc.Soft, Level: end.Level}); found != want {
		t.Fatalf("13.1: a walk finds %+v; want %+v", found, want)
	}
}

// gotNone fails the test if the page is mapped.
func gotNone(t *testing.T, f *frames.Frames, s *stage2.Table, page uint64) {
	t.Helper()
	if l, ok := s.Get(page); ok || l != (stage2.Leaf{}) {
		t.Fatalf("13.4: Get(%#x): %+v, %t", page, l, ok)
	}
	if page >= endPage {
		return
	}
	if _, kind := walked(f, s, page); kind != api.Translation {
		t.Fatalf("13.1: a walk to page %#x: %d", page, kind)
	}
}

// walked is what a walk from the root finds of the page.
func walked(f *frames.Frames, s *stage2.Table, page uint64) ([]walk.Step, int) {
	return walk.Walk(2, s.Root(), page*api.FrameSize, func(at uint64) (uint64, bool) {
		w, e := f.Mem().Read(at, 8)
		return w, e == api.OK
	})
}

// leaves fails the test if Leaves does not tell these.
func leaves(t *testing.T, s *stage2.Table, want ...stage2.Leaf) {
	t.Helper()
	if l := s.Leaves(); !slices.Equal(l, want) {
		t.Fatalf("13.4: Leaves: %+v; want %+v", l, want)
	}
}

// tables fails the test if the table has not n table pages, all that of the pool are not free.
func tables(t *testing.T, f *frames.Frames, s *stage2.Table, pool, n int) {
	t.Helper()
	if _, free := f.Free(); s.Tables() != n || free != pool-n {
		t.Fatalf("13.4: %d tables, %d of %d table pages are free; want %d tables", s.Tables(), free, pool, n)
	}
}

// bytesOf are the bytes of the first frames of the memory, and the counts of all.
func bytesOf(f *frames.Frames, first int) []byte {
	var l []byte
	for frame := range f.Mem().Frames() {
		if frame < first {
			page, _ := f.Mem().Get(frame)
			l = append(l, page...)
		}
		l = append(l, byte(f.Count(frame)))
	}
	return l
}

// refuse fails the test if the call does not answer want, or if it changes the first frames or a count.
func refuse(t *testing.T, f *frames.Frames, first int, what string, call func() api.Errno, want api.Errno) {
	t.Helper()
	before := bytesOf(f, first)
	is(t, what, call(), want)
	if !bytes.Equal(before, bytesOf(f, first)) {
		t.Fatalf("13.5: %s: %d, and something has changed", what, want)
	}
}

func TestNew(t *testing.T) {
	if s, e := stage2.New(nil); s != nil || e != api.ErrArg {
		t.Errorf("13.1: New(nil): %v, %d", s, e)
	}
	m, _ := phys.New(8)
	f, _ := frames.New(m, 3)
	roots := map[uint64]int{}
	for i := range 3 {
		s, e := stage2.New(f)
		if e != api.OK || s == nil {
			t.Fatalf("13.1: New %d: %d", i, e)
		}
		if root := s.Root(); root%api.FrameSize != 0 || root >= 3*api.FrameSize || f.Count(int(root/api.FrameSize)) != 1 {
			t.Errorf("13.1: Root: %#x", root)
		}
		roots[s.Root()]++
		if s.Tables() != 1 || len(s.Leaves()) != 0 || s.Need(0) != 3 {
			t.Errorf("13.1: a new table: %d tables, %v", s.Tables(), s.Leaves())
		}
		for _, page := range edgePages {
			gotNone(t, f, s, page)
		}
	}
	if len(roots) != 3 {
		t.Errorf("13.1: three tables have the roots %v", roots)
	}
	if s, e := stage2.New(f); s != nil || e != api.ErrPool {
		t.Errorf("13.1: New without a table page: %v, %d", s, e)
	}
}

func TestExample(t *testing.T) {
	f, s := made(t, 16, 8)
	if s.Need(0) != 3 {
		t.Errorf("13.1: Need: %d", s.Need(0))
	}
	is(t, "13.1: Map", s.Map(0, 9, rw, 0), api.OK)
	tables(t, f, s, 8, 4)
	unmapped(t, s, 0, 9, api.OK)
	tables(t, f, s, 8, 1)
}

// TestWords looks at the words themselves: three Tables and a Page, three words and a Block.
func TestWords(t *testing.T) {
	f, s := made(t, 1024, 8)
	page := uint64(1<<27 | 2<<18 | 3<<9 | 4)
	s.Map(page, 0x123, rx, 11)
	s.MapBlock(page&^511+512, 512, rw, 6)
	l, _ := walked(f, s, page)
	want := uint64(0x123)<<12 | 3 | 5<<6 | 11<<55
	if len(l) != 4 || l[3].Raw != want || l[0].At != s.Root()+8 {
		t.Fatalf("13.1: %+v", l)
	}
	for level, step := range l[:3] {
		if step.Raw != l[level+1].At&^4095|3 || f.Count(int(l[level+1].At/4096)) != 1 {
			t.Errorf("13.1: level %d: %#x", level, step.Raw)
		}
	}
	if l, _ = walked(f, s, page+512); len(l) != 3 || l[2].Raw != 512<<12|1|3<<6|6<<55 {
		t.Errorf("13.2: %+v", l)
	}
	// What is no entry of these ways is 0: the tables' words are all.
	words := 0
	for at := uint64(0); at < 8*api.FrameSize; at += 8 {
		if w, _ := f.Mem().Read(at, 8); w != 0 {
			words++
		}
	}
	if words != 5 {
		t.Errorf("13.1: %d words are not 0", words)
	}
}

func TestMapEdges(t *testing.T) {
	for _, page := range edgePages {
		for _, frame := range []int{0, 1, 5, 62, 63} {
			f, s := made(t, 64, 4)
			is(t, "13.1: Map", s.Map(page, frame, rwx, 15), api.OK)
			got(t, f, s, stage2.Leaf{Page: page, Frame: frame, Perm: rwx, Soft: 15, Level: 3})
			leaves(t, s, stage2.Leaf{Page: page, Frame: frame, Perm: rwx, Soft: 15, Level: 3})
			for _, other := range edgePages {
				if other != page {
					gotNone(t, f, s, other)
				}
			}
			tables(t, f, s, 4, 4)
			unmapped(t, s, page, frame, api.OK)
			gotNone(t, f, s, page)
			tables(t, f, s, 4, 1)
		}
	}
}

func TestGreatestMemory(t *testing.T) {
	f, s := made(t, api.MaxFrames, 16)
	is(t, "13.1: Map", s.Map(7, api.MaxFrames-1, r, 1), api.OK)
	is(t, "13.2: MapBlock", s.MapBlock(endPage-512, api.MaxFrames-512, rw, 2), api.OK)
	got(t, f, s, stage2.Leaf{Page: 7, Frame: api.MaxFrames - 1, Perm: r, Soft: 1, Level: 3})
	got(t, f, s, stage2.Leaf{Page: endPage - 1, Frame: api.MaxFrames - 1, Perm: rw, Soft: 2, Level: 2})
	is(t, "13.2: MapBlock past the end", s.MapBlock(512, api.MaxFrames-511, rw, 0), api.ErrRange)
	is(t, "13.1: Map past the end", s.Map(8, api.MaxFrames, rw, 0), api.ErrRange)
	is(t, "13.2: Split", s.Split(endPage-1), api.OK)
	got(t, f, s, stage2.Leaf{Page: endPage - 1, Frame: api.MaxFrames - 1, Perm: rw, Soft: 2, Level: 3})
	is(t, "13.2: Join", s.Join(endPage-1), api.OK)
	got(t, f, s, stage2.Leaf{Page: endPage - 512, Frame: api.MaxFrames - 512, Perm: rw, Soft: 2, Level: 2})
}

func TestMarkings(t *testing.T) {
	f, s := made(t, 600, 8)
	page, want := uint64(0), []stage2.Leaf(nil)
	for _, p := range []api.Perm{none, r, rw, rx, rwx, x} {
		for soft := range 16 {
			is(t, "13.1: Map", s.Map(page, int(page), p, soft), api.OK)
			want = append(want, stage2.Leaf{Page: page, Frame: int(page), Perm: p, Soft: soft, Level: 3})
			page++
		}
	}
	leaves(t, s, want...)
	for i, l := range want {
		got(t, f, s, l)
		other := want[(i+37)%len(want)]
		is(t, "13.3: Protect", s.Protect(l.Page, other.Perm, other.Soft), api.OK)
		got(t, f, s, stage2.Leaf{Page: l.Page, Frame: l.Frame, Perm: other.Perm, Soft: other.Soft, Level: 3})
	}
}

// TestMapRefusals has each refusal, and ahead of it what of the later ones would apply.
func TestMapRefusals(t *testing.T) {
	f, s := made(t, 64, 4)
	s.Map(5, 9, rw, 3)
	mapped := func(page uint64, frame int, p api.Perm, soft int, want api.Errno) {
		t.Helper()
		refuse(t, f, 64, "13.1: Map", func() api.Errno { return s.Map(page, frame, p, soft) }, want)
	}
	for _, page := range noPages {
		mapped(page, 9, rw, 0, api.ErrRange)
		mapped(page, -1, wrong[0], 16, api.ErrRange)
	}
	for _, frame := range append([]int{64, 65, 511, 512}, oddFrames...) {
		mapped(6, frame, rw, 0, api.ErrRange)
		mapped(5, frame, wrong[0], 16, api.ErrRange)
	}
	for _, soft := range oddSofts {
		mapped(6, 9, rw, soft, api.ErrArg)
		mapped(5, 9, rw, soft, api.ErrArg)
		mapped(512, 9, rw, soft, api.ErrArg)
	}
	for _, p := range wrong {
		mapped(6, 9, p, 0, api.ErrArg)
		mapped(5, 9, p, 0, api.ErrArg)
		mapped(1<<18, 9, p, 0, api.ErrArg)
	}
	mapped(5, 9, rw, 3, api.ErrThere)
	mapped(5, 10, none, 0, api.ErrThere)
	mapped(512, 9, rw, 0, api.ErrPool)
	leaves(t, s, stage2.Leaf{Page: 5, Frame: 9, Perm: rw, Soft: 3, Level: 3})
	is(t, "13.1: Map", s.Map(6, 9, rw, 0), api.OK)
}

func TestNeed(t *testing.T) {
	_, s := made(t, 2048, 32)
	needs := func(page uint64, want int) {
		t.Helper()
		if n := s.Need(page); n != want {
			t.Fatalf("13.1: Need(%#x): %d; want %d", page, n, want)
		}
	}
	for _, page := range edgePages {
		needs(page, 3)
	}
	for _, page := range noPages {
		needs(page, 0)
	}
	s.Map(0, 9, rw, 0)
	for page, want := range map[uint64]int{0: 0, 1: 0, 511: 0, 512: 1, 1<<18 - 1: 1, 1 << 18: 2, 1<<27 - 1: 2, 1 << 27: 3, endPage - 1: 3, endPage: 0, 1 << 36: 0} {
		needs(page, want)
	}
	s.MapBlock(1<<27, 512, rw, 0)
	for page, want := range map[uint64]int{1 << 27: 0, 1<<27 + 511: 0, 1<<27 + 512: 1, 1<<27 + 1<<18: 2, endPage - 1: 2, 1<<27 - 1: 2} {
		needs(page, want)
	}
	s.Unmap(0)
	needs(0, 3)
	s.Split(1 << 27)
	s.Unmap(1 << 27)
	needs(1<<27, 0)
	needs(1<<27+1, 0)
	needs(1<<27+512, 1)
}

// TestPoolEdge: as many table pages as Need tells are enough, and one less is not.
func TestPoolEdge(t *testing.T) {
	pages := []uint64{endPage - 1, 0, 1 << 18, 512, 1}
	for pool := 1; pool <= 12; pool++ {
		f, s := made(t, 64, pool)
		for _, page := range pages {
			_, free := f.Free()
			need := s.Need(page)
			if free < need {
				refuse(t, f, 64, "13.1: Map", func() api.Errno { return s.Map(page, 9, rw, 0) }, api.ErrPool)
				continue
			}
			is(t, "13.1: Map", s.Map(page, 9, rw, 0), api.OK)
			if _, left := f.Free(); left != free-need {
				t.Errorf("13.1: Need(%#x) told %d, and %d were taken", page, need, free-left)
			}
		}
	}
}

func TestMapBlock(t *testing.T) {
	for _, page := range []uint64{0, 512, 1<<18 - 512, 1 << 18, 1<<27 - 512, 1 << 27, endPage - 512} {
		for _, frame := range []int{0, 512, 1024} {
			f, s := made(t, 1536+511, 3)
			is(t, "13.2: MapBlock", s.MapBlock(page, frame, rx, 7), api.OK)
			tables(t, f, s, 3, 3)
			leaves(t, s, stage2.Leaf{Page: page, Frame: frame, Perm: rx, Soft: 7, Level: 2})
			for _, i := range []int{0, 1, 255, 510, 511} {
				at := page + uint64(i)
				got(t, f, s, stage2.Leaf{Page: at, Frame: frame + i, Perm: rx, Soft: 7, Level: 2})
				if s.Need(at) != 0 {
					t.Errorf("13.1: Need in a block: %d", s.Need(at))
				}
				refuse(t, f, 3, "13.1: Map in a block", func() api.Errno { return s.Map(at, 9, rw, 0) }, api.ErrThere)
			}
			for _, other := range []uint64{page - 1, page + 512} {
				gotNone(t, f, s, other)
			}
		}
	}
}

func TestMapBlockRefusals(t *testing.T) {
	f, s := made(t, 2047, 5)
	s.MapBlock(512, 512, rw, 5)
	s.Map(1024+300, 9, r, 0)
	leaves := s.Leaves()
	mapped := func(page uint64, frame int, p api.Perm, soft int, want api.Errno) {
		t.Helper()
		refuse(t, f, 5, "13.2: MapBlock", func() api.Errno { return s.MapBlock(page, frame, p, soft) }, want)
	}
	for _, page := range noPages {
		mapped(page, 512, rw, 0, api.ErrRange)
		mapped(page, 513, wrong[0], 16, api.ErrRange)
	}
	for _, frame := range append([]int{1536, 1537, 2046, 2047, 2048}, oddFrames...) {
		mapped(0, frame, rw, 0, api.ErrRange)
		mapped(513, frame, wrong[0], 16, api.ErrRange)
	}
	for _, soft := range oddSofts {
		mapped(0, 512, rw, soft, api.ErrArg)
		mapped(1, 513, rw, soft, api.ErrArg)
	}
	for _, p := range wrong {
		mapped(0, 512, p, 0, api.ErrArg)
		mapped(513, 512, p, 0, api.ErrArg)
	}
	for _, page := range []uint64{1, 511, 513, 768, 1024 + 300, endPage - 1} {
		mapped(page, 512, rw, 0, api.ErrAlign)
	}
	for _, frame := range []int{1, 511, 513, 768, 1535} {
		mapped(0, frame, rw, 0, api.ErrAlign)
		mapped(512, frame, rw, 0, api.ErrAlign)
	}
	mapped(512, 512, rw, 5, api.ErrThere)
	mapped(512, 0, none, 0, api.ErrThere)
	mapped(1024, 512, rw, 0, api.ErrThere)
	mapped(1<<27, 512, rw, 0, api.ErrPool)
	if !slices.Equal(s.Leaves(), leaves) {
		t.Errorf("13.5: %+v", s.Leaves())
	}
	is(t, "13.2: MapBlock", s.MapBlock(1<<18, 1024, rw, 0), api.OK)
	mapped(1<<18, 513, rw, 0, api.ErrAlign)
	mapped(2<<18, 1024, rw, 0, api.ErrPool)
	is(t, "13.2: MapBlock", s.MapBlock(0, 1024, rw, 0), api.OK)
}

func TestMapBlockOfASmallMemory(t *testing.T) {
	for _, n := range []int{8, 511} {
		f, s := made(t, n, 4)
		refuse(t, f, n, "13.2: MapBlock", func() api.Errno { return s.MapBlock(0, 0, rw, 0) }, api.ErrRange)
	}
	_, s := made(t, 512, 4)
	is(t, "13.2: MapBlock", s.MapBlock(0, 0, rw, 0), api.OK)
}

// TestMapBlockWherePagesAre: one Page is enough, wherever it is; without it there may be a Block.
func TestMapBlockWherePagesAre(t *testing.T) {
	for _, i := range []uint64{0, 1, 100, 510, 511} {
		f, s := made(t, 1024, 4)
		s.Map(512+i, 9, rw, 0)
		refuse(t, f, 4, "13.2: MapBlock", func() api.Errno { return s.MapBlock(512, 512, rw, 0) }, api.ErrThere)
		unmapped(t, s, 512+i, 9, api.OK)
		is(t, "13.2: MapBlock", s.MapBlock(512, 512, rw, 0), api.OK)
		tables(t, f, s, 4, 3)
	}
}

// TestMapBlockPool: tables of the levels 1 and 2 may lack, one of the level 3 does not.
func TestMapBlockPool(t *testing.T) {
	for pool, c := range [][4]api.Errno{
		1: {api.ErrPool, api.ErrPool, api.ErrPool, api.ErrPool},
		2: {api.ErrPool, api.ErrPool, api.ErrPool, api.ErrPool},
		3: {api.OK, api.OK, api.ErrPool, api.ErrPool},
		4: {api.OK, api.OK, api.OK, api.ErrPool},
		5: {api.OK, api.OK, api.OK, api.ErrPool},
		6: {api.OK, api.OK, api.OK, api.OK},
	} {
		if pool == 0 {
			continue
		}
		f, s := made(t, 1024, pool)
		for i, page := range []uint64{0, 512, 1 << 18, 1 << 27} {
			before := bytesOf(f, pool)
			is(t, "13.2: MapBlock", s.MapBlock(page, 0, rw, 0), c[i])
			if c[i] != api.OK && !bytes.Equal(before, bytesOf(f, pool)) {
				t.Errorf("13.5: a pool of %d: MapBlock(%#x) was refused and changed something", pool, page)
			}
		}
	}
}

func TestSplitAndJoin(t *testing.T) {
	for _, at := range []uint64{0, 1, 200, 511} {
		f, s := made(t, 2048, 4)
		s.MapBlock(1<<27+512, 1024, rx, 9)
		before := bytesOf(f, 4)
		is(t, "13.2: Split", s.Split(1<<27+512+at), api.OK)
		tables(t, f, s, 4, 4)
		want := []stage2.Leaf{}
		for i := range 512 {
			want = append(want, stage2.Leaf{Page: 1<<27 + 512 + uint64(i), Frame: 1024 + i, Perm: rx, Soft: 9, Level: 3})
			got(t, f, s, want[i])
		}
		leaves(t, s, want...)
		gotNone(t, f, s, 1<<27+511)
		gotNone(t, f, s, 1<<27+1024)
		refuse(t, f, 4, "13.2: Split", func() api.Errno { return s.Split(1<<27 + 512 + at) }, api.ErrState)
		is(t, "13.2: Join", s.Join(1<<27+1023-at), api.OK)
		tables(t, f, s, 4, 3)
		leaves(t, s, stage2.Leaf{Page: 1<<27 + 512, Frame: 1024, Perm: rx, Soft: 9, Level: 2})
		if !bytes.Equal(before, bytesOf(f, 4)) {
			t.Error("13.5: split and joined, the memory is not what it was")
		}
		refuse(t, f, 4, "13.2: Join", func() api.Errno { return s.Join(1<<27 + 512 + at) }, api.ErrState)
	}
}

func TestSplitRefusals(t *testing.T) {
	f, s := made(t, 1024, 4)
	s.MapBlock(0, 512, rw, 0)
	s.Map(512+7, 9, rw, 0)
	split := func(page uint64, want api.Errno) {
		t.Helper()
		refuse(t, f, 4, "13.2: Split", func() api.Errno { return s.Split(page) }, want)
	}
	for _, page := range append([]uint64{512, 512 + 6, 512 + 8, 1024, 1 << 18, 1 << 27, endPage - 1}, noPages...) {
		split(page, api.ErrNone)
	}
	split(512+7, api.ErrState)
	split(0, api.ErrPool)
	split(511, api.ErrPool)
	s.Unmap(512 + 7)
	is(t, "13.2: Split", s.Split(511), api.OK)
}

// TestJoinRefusals changes one of 512 pages, the others being as they must.
func TestJoinRefusals(t *testing.T) {
	f, s := made(t, 2048, 4)
	join := func(page uint64, want api.Errno) {
		t.Helper()
		refuse(t, f, 4, "13.2: Join", func() api.Errno { return s.Join(page) }, want)
	}
	for _, page := range append(slices.Clone(edgePages), noPages...) {
		join(page, api.ErrNone)
	}
	for i := range 512 {
		s.Map(uint64(i), 1024+i, rw, 3)
		if i < 511 {
			join(uint64(i), api.ErrState)
			join(0, api.ErrState)
			join(uint64(i)+1, api.ErrNone)
		}
	}
	for _, i := range []int{0, 1, 255, 510, 511} {
		page := uint64(i)
		others := []uint64{0, 1, 255, 510, 511}
		again := func(frame int, p api.Perm, soft int) {
			t.Helper()
			unmapped(t, s, page, 1024+i, api.OK)
			join(page, api.ErrNone)
			for _, other := range others {
				if other != page {
					join(other, api.ErrState)
				}
			}
			is(t, "13.1: Map", s.Map(page, frame, p, soft), api.OK)
			for _, other := range others {
				join(other, api.ErrState)
			}
			unmapped(t, s, page, frame, api.OK)
			is(t, "13.1: Map", s.Map(page, 1024+i, rw, 3), api.OK)
		}
		for _, frame := range []int{0, 512 + i, 1023, 1024 + (i+1)%512, 1024 + (i+511)%512, 1536, 1536 + i} {
			if frame != 1024+i {
				again(frame, rw, 3)
			}
		}
		for _, p := range []api.Perm{none, r, rx, rwx, x} {
			again(1024+i, p, 3)
		}
		for _, soft := range []int{0, 2, 11, 15} {
			again(1024+i, rw, soft)
		}
	}
	is(t, "13.2: Join", s.Join(17), api.OK)
	leaves(t, s, stage2.Leaf{Page: 0, Frame: 1024, Perm: rw, Soft: 3, Level: 2})
}

// TestJoinFromNoMultiple: the frames follow one another, but not from a multiple of 512 on.
func TestJoinFromNoMultiple(t *testing.T) {
	for _, first := range []int{1, 256, 511, 513} {
		f, s := made(t, 2048, 4)
		for i := range 512 {
			s.Map(512+uint64(i), first+i, r, 0)
		}
		refuse(t, f, 4, "13.2: Join", func() api.Errno { return s.Join(600) }, api.ErrState)
	}
	// They may end at the memory's end, or be those of the tables.
	for _, first := range []int{0, 512, 1536} {
		_, s := made(t, 2048, 4)
		for i := range 512 {
			s.Map(512+uint64(511-i), first+511-i, none, 0)
		}
		is(t, "13.2: Join", s.Join(600), api.OK)
		leaves(t, s, stage2.Leaf{Page: 512, Frame: first, Level: 2})
	}
	// Falling, they do not follow one another.
	_, s := made(t, 2048, 4)
	for i := range 512 {
		s.Map(uint64(i), 1023-i, rw, 0)
	}
	is(t, "13.2: Join", s.Join(0), api.ErrState)
	// Neither does one frame of all pages.
	_, s = made(t, 2048, 4)
	for i := range 512 {
		s.Map(uint64(i), 512, rw, 0)
	}
	is(t, "13.2: Join", s.Join(0), api.ErrState)
}

// TestJoinWithFullPool: no table page is asked for.
func TestJoinWithFullPool(t *testing.T) {
	f, s := made(t, 2048, 4)
	s.MapBlock(0, 512, rw, 0)
	s.Split(0)
	tables(t, f, s, 4, 4)
	is(t, "13.2: Join", s.Join(0), api.OK)
	tables(t, f, s, 4, 3)
}

func TestUnmapInABlock(t *testing.T) {
	for _, i := range []int{0, 1, 300, 511} {
		f, s := made(t, 2048, 4)
		s.MapBlock(512, 1024, rwx, 4)
		unmapped(t, s, 512+uint64(i), 1024+i, api.OK)
		tables(t, f, s, 4, 4)
		want := []stage2.Leaf{}
		for j := range 512 {
			if j != i {
				want = append(want, stage2.Leaf{Page: 512 + uint64(j), Frame: 1024 + j, Perm: rwx, Soft: 4, Level: 3})
			}
		}
		leaves(t, s, want...)
		gotNone(t, f, s, 512+uint64(i))
		unmapped(t, s, 512+uint64(i), 0, api.ErrNone)
		for j, l := range want {
			tables(t, f, s, 4, 4)
			unmapped(t, s, l.Page, l.Frame, api.OK)
			leaves(t, s, want[j+1:]...)
		}
		tables(t, f, s, 4, 1)
	}
}

func TestUnmapRefusals(t *testing.T) {
	f, s := made(t, 1024, 4)
	s.Map(512+7, 9, rw, 0)
	call := func(page uint64, want api.Errno) {
		t.Helper()
		refuse(t, f, 4, "13.3: Unmap", func() api.Errno {
			frame, e := s.Unmap(page)
			if frame != 0 {
				t.Errorf("13.3: Unmap(%#x): %d beside an error", page, frame)
			}
			return e
		}, want)
	}
	for _, page := range append([]uint64{0, 7, 512, 512 + 6, 512 + 8, 1024, 1 << 18, 1 << 27, endPage - 1, 1<<36 + 512 + 7, 1<<28 + 512 + 7}, noPages...) {
		call(page, api.ErrNone)
	}
	s.MapBlock(0, 512, rw, 0)
	call(0, api.ErrPool)
	call(511, api.ErrPool)
	leaves(t, s, stage2.Leaf{Page: 0, Frame: 512, Perm: rw, Level: 2}, stage2.Leaf{Page: 512 + 7, Frame: 9, Perm: rw, Level: 3})
}

func TestProtect(t *testing.T) {
	f, s := made(t, 2048, 4)
	s.Map(5, 9, rw, 0)
	s.Map(6, 10, rw, 0)
	is(t, "13.3: Protect", s.Protect(5, x, 15), api.OK)
	is(t, "13.3: Protect", s.Protect(5, x, 15), api.OK)
	leaves(t, s, stage2.Leaf{Page: 5, Frame: 9, Perm: x, Soft: 15, Level: 3}, stage2.Leaf{Page: 6, Frame: 10, Perm: rw, Level: 3})
	call := func(page uint64, p api.Perm, soft int, want api.Errno) {
		t.Helper()
		refuse(t, f, 4, "13.3: Protect", func() api.Errno { return s.Protect(page, p, soft) }, want)
	}
	for _, page := range append([]uint64{0, 4, 7, 512, 1 << 18, 1 << 27, endPage - 1}, noPages...) {
		call(page, rw, 0, api.ErrNone)
		for _, p := range wrong {
			call(page, p, 0, api.ErrArg)
		}
		for _, soft := range oddSofts {
			call(page, rw, soft, api.ErrArg)
			call(5, rw, soft, api.ErrArg)
		}
	}
	for _, p := range wrong {
		call(5, p, 0, api.ErrArg)
	}
	tables(t, f, s, 4, 4)
}

// TestProtectInABlock: another Perm or another Soft splits it, the same ones do not.
func TestProtectInABlock(t *testing.T) {
	for _, c := range []struct {
		p    api.Perm
		soft int
	}{{r, 5}, {rw, 4}, {none, 0}, {rwx, 5}, {rw, 0}} {
		for _, i := range []int{0, 88, 511} {
			f, s := made(t, 2048, 4)
			s.MapBlock(512, 1024, rw, 5)
			refuse(t, f, 4, "13.3: Protect as it is", func() api.Errno { return s.Protect(512+uint64(i), rw, 5) }, api.OK)
			for _, p := range wrong {
				refuse(t, f, 4, "13.3: Protect", func() api.Errno { return s.Protect(512, p, 5) }, api.ErrArg)
			}
			is(t, "13.3: Protect", s.Protect(512+uint64(i), c.p, c.soft), api.OK)
			want := []stage2.Leaf{}
			for j := range 512 {
				want = append(want, stage2.Leaf{Page: 512 + uint64(j), Frame: 1024 + j, Perm: rw, Soft: 5, Level: 3})
			}
			want[i].Perm, want[i].Soft = c.p, c.soft
			leaves(t, s, want...)
			tables(t, f, s, 4, 4)
			is(t, "13.2: Join", s.Join(512), api.ErrState)
			is(t, "13.3: Protect", s.Protect(512+uint64(i), rw, 5), api.OK)
			is(t, "13.2: Join", s.Join(512), api.OK)
		}
	}
	f, s := made(t, 2048, 3)
	s.MapBlock(512, 1024, rw, 5)
	refuse(t, f, 3, "13.3: Protect", func() api.Errno { return s.Protect(513, r, 5) }, api.ErrPool)
	refuse(t, f, 3, "13.3: Protect", func() api.Errno { return s.Protect(513, rw, 6) }, api.ErrPool)
	refuse(t, f, 3, "13.3: Protect", func() api.Errno { return s.Protect(513, rw, 5) }, api.OK)
	got(t, f, s, stage2.Leaf{Page: 513, Frame: 1025, Perm: rw, Soft: 5, Level: 2})
}

// TestEmptyTablesAreFreed takes pages away so that each level's tables become empty for themselves.
func TestEmptyTablesAreFreed(t *testing.T) {
	f, s := made(t, 1024, 16)
	for i, page := range []uint64{0, 1, 512, 1 << 18, 1 << 27, endPage - 1} {
		s.Map(page, 20+i, rw, 0)
	}
	s.MapBlock(1024, 512, rw, 0)
	tables(t, f, s, 16, 1+2+4+5)
	for _, c := range []struct {
		page  uint64
		frame int
		n     int
	}{{0, 20, 12}, {1, 21, 11}, {512, 22, 10}, {endPage - 1, 25, 8}, {1 << 18, 23, 6}, {1 << 27, 24, 3}} {
		unmapped(t, s, c.page, c.frame, api.OK)
		tables(t, f, s, 16, c.n)
	}
	leaves(t, s, stage2.Leaf{Page: 1024, Frame: 512, Perm: rw, Level: 2})
	for i := range 512 {
		unmapped(t, s, 1024+uint64(i), 512+i, api.OK)
	}
	tables(t, f, s, 16, 1)
	leaves(t, s)
	for frame := range 16 {
		if !f.Mem().Clear(frame) {
			t.Errorf("13.5: table page %d is not 0 all over", frame)
		}
	}
}

func TestLeavesByPage(t *testing.T) {
	_, s := made(t, 2048, 64)
	s.MapBlock(endPage-512, 1024, r, 1)
	s.Map(1<<27, 3, rw, 2)
	s.Map(511, 4, x, 3)
	s.MapBlock(512, 512, rwx, 4)
	s.Map(1024, 4, none, 5)
	s.Map(1<<18, 4, rw, 6)
	s.MapBlock(1<<18+512, 512, rw, 7)
	s.Map(0, 9, rw, 8)
	leaves(t, s,
		stage2.Leaf{Page: 0, Frame: 9, Perm: rw, Soft: 8, Level: 3},
		stage2.Leaf{Page: 511, Frame: 4, Perm: x, Soft: 3, Level: 3},
		stage2.Leaf{Page: 512, Frame: 512, Perm: rwx, Soft: 4, Level: 2},
		stage2.Leaf{Page: 1024, Frame: 4, Soft: 5, Level: 3},
		stage2.Leaf{Page: 1 << 18, Frame: 4, Perm: rw, Soft: 6, Level: 3},
		stage2.Leaf{Page: 1<<18 + 512, Frame: 512, Perm: rw, Soft: 7, Level: 2},
		stage2.Leaf{Page: 1 << 27, Frame: 3, Perm: rw, Soft: 2, Level: 3},
		stage2.Leaf{Page: endPage - 512, Frame: 1024, Perm: r, Soft: 1, Level: 2},
	)
	a, b := s.Leaves(), s.Leaves()
	clear(a[:cap(a)])
	if !slices.Equal(b, s.Leaves()) || b[0].Frame != 9 {
		t.Error("13.4: two answers share memory")
	}
}

func TestFree(t *testing.T) {
	f, s := made(t, 2048, 16)
	first, _ := f.Block()
	page, _ := f.Page()
	f.Ref(page)
	for frame := range 512 {
		f.Mem().Write(uint64(first+frame)*api.FrameSize, 8, 7)
	}
	s.MapBlock(512, first, rw, 0)
	s.MapBlock(1<<27, first, rw, 0)
	s.Split(600)
	s.Map(endPage-1, page, rw, 0)
	s.Map(0, 15, rw, 0)
	before := bytesOf(f, 2048)
	is(t, "13.4: Free", s.Free(), api.OK)
	if _, tables := f.Free(); tables != 16 {
		t.Errorf("13.5: %d table pages are free", tables)
	}
	after := bytesOf(f, 2048)
	const pool = 16 * (api.FrameSize + 1)
	if !bytes.Equal(before[pool:], after[pool:]) || f.Count(page) != 2 {
		t.Error("13.4: Free touched frames that were mapped")
	}
	if !bytes.Equal(after[:pool], make([]byte, pool)) {
		t.Error("13.5: table pages that are free are not 0 all over")
	}
}

func TestBehindFree(t *testing.T) {
	f, elder := made(t, 2048, 16)
	s, _ := stage2.New(f)
	if s.Root() == 0 {
		t.Fatal("13.1: the second root is where the first one is")
	}
	s.MapBlock(512, 1024, rw, 0)
	s.Map(0, 20, rw, 0)
	is(t, "13.4: Free", s.Free(), api.OK)
	is(t, "13.4: Free", elder.Free(), api.OK)
	// Another table stands where the first one stood, and is not touched by it.
	other, _ := stage2.New(f)
	other.Map(0, 21, rw, 0)
	other.MapBlock(512, 1024, rw, 0)
	for _, page := range []uint64{0, 512, 600, 1, endPage - 1, endPage, math.MaxUint64} {
		for what, call := range map[string]func() api.Errno{
			"Map":                func() api.Errno { return s.Map(page, 20, rw, 0) },
			"Map of no frame":    func() api.Errno { return s.Map(page, -1, rw, 0) },
			"Map of no Perm":     func() api.Errno { return s.Map(page, 20, wrong[0], 16) },
			"MapBlock":           func() api.Errno { return s.MapBlock(page, 512, rw, 0) },
			"MapBlock, no frame": func() api.Errno { return s.MapBlock(page, 2048, wrong[0], -1) },
			"MapBlock, unlike":   func() api.Errno { return s.MapBlock(page, 513, rw, 0) },
			"Unmap": func() api.Errno {
				frame, e := s.Unmap(page)
				return e + api.Errno(100*frame)
			},
			"Protect":            func() api.Errno { return s.Protect(page, r, 0) },
			"Protect of no Perm": func() api.Errno { return s.Protect(page, wrong[0], 0) },
			"Protect of no Soft": func() api.Errno { return s.Protect(page, rw, 16) },
			"Split":              func() api.Errno { return s.Split(page) },
			"Join":               func() api.Errno { return s.Join(page) },
			"Free":               s.Free,
		} {
			refuse(t, f, 16, "13.4: behind Free: "+what, call, api.ErrNone)
		}
		if l, ok := s.Get(page); ok || l != (stage2.Leaf{}) {
			t.Errorf("13.4: behind Free: Get(%#x): %+v", page, l)
		}
		if s.Need(page) != 0 || s.Tables() != 0 || s.Root() != 0 || len(s.Leaves()) != 0 {
			t.Errorf("13.4: behind Free: %d, %d, %#x, %v", s.Need(page), s.Tables(), s.Root(), s.Leaves())
		}
	}
	leaves(t, other, stage2.Leaf{Page: 0, Frame: 21, Perm: rw, Level: 3}, stage2.Leaf{Page: 512, Frame: 1024, Perm: rw, Level: 2})
	is(t, "13.4: Free", other.Free(), api.OK)
	if _, tables := f.Free(); tables != 16 {
		t.Errorf("13.5: %d table pages are free", tables)
	}
}

// TestTwoTablesAreApart: of one memory, the same pages.
func TestTwoTablesAreApart(t *testing.T) {
	f, a := made(t, 2048, 16)
	b, _ := stage2.New(f)
	a.Map(0, 20, rw, 0)
	b.Map(0, 21, r, 1)
	b.MapBlock(512, 512, rw, 0)
	a.Map(512, 22, rw, 0)
	got(t, f, a, stage2.Leaf{Page: 0, Frame: 20, Perm: rw, Level: 3})
	got(t, f, b, stage2.Leaf{Page: 0, Frame: 21, Perm: r, Soft: 1, Level: 3})
	gotNone(t, f, a, 513)
	is(t, "13.4: Free", a.Free(), api.OK)
	leaves(t, b, stage2.Leaf{Page: 0, Frame: 21, Perm: r, Soft: 1, Level: 3}, stage2.Leaf{Page: 512, Frame: 512, Perm: rw, Level: 2})
	if _, tables := f.Free(); tables != 16-b.Tables() {
		t.Errorf("13.5: %d table pages are free, %d are used", tables, b.Tables())
	}
}

// entry writes a descriptor into the memory, where the page's entry of the level is.
func entry(t *testing.T, f *frames.Frames, s *stage2.Table, page uint64, level int, d api.Desc) {
	t.Helper()
	l, _ := walked(f, s, page)
	w, e := desc.Encode(2, level, d)
	if e != api.OK || f.Mem().Write(l[level].At, 8, w) != api.OK {
		t.Fatalf("%+v is no entry of the level %d", d, level)
	}
}

// TestTablesAreReadEachTime writes into the tables behind the table's back.
func TestTablesAreReadEachTime(t *testing.T) {
	f, s := made(t, 2048, 8)
	s.Map(5, 9, rw, 0)
	entry(t, f, s, 5, 3, api.Desc{Kind: api.Page, Addr: 0x77000, Perm: x, Soft: 4})
	got(t, f, s, stage2.Leaf{Page: 5, Frame: 0x77, Perm: x, Soft: 4, Level: 3})
	leaves(t, s, stage2.Leaf{Page: 5, Frame: 0x77, Perm: x, Soft: 4, Level: 3})
	entry(t, f, s, 6, 3, api.Desc{Kind: api.Page, Addr: 0x78000, Perm: r})
	is(t, "13.1: Map", s.Map(6, 9, rw, 0), api.ErrThere)
	unmapped(t, s, 5, 0x77, api.OK)
	tables(t, f, s, 8, 4)
	entry(t, f, s, 6, 3, api.Desc{})
	gotNone(t, f, s, 6)
	leaves(t, s)
	unmapped(t, s, 6, 0, api.ErrNone)
	is(t, "13.2: MapBlock", s.MapBlock(0, 512, rw, 0), api.OK)
	tables(t, f, s, 8, 3)
	entry(t, f, s, 0, 2, api.Desc{Kind: api.Block, Addr: 1024 << 12, Perm: r})
	got(t, f, s, stage2.Leaf{Page: 3, Frame: 1027, Perm: r, Level: 2})
	is(t, "13.2: Split", s.Split(0), api.OK)
	got(t, f, s, stage2.Leaf{Page: 3, Frame: 1027, Perm: r, Level: 3})
	entry(t, f, s, 3, 3, api.Desc{Kind: api.Page, Addr: 1027 << 12, Perm: rw})
	is(t, "13.2: Join", s.Join(0), api.ErrState)
	// A table that another hand has hung in is one of its tables.
	table, _ := f.Table()
	entry(t, f, s, 512, 2, api.Desc{Kind: api.Table, Addr: uint64(table) << 12})
	f.Mem().Write(uint64(table)<<12, 8, 0x9043)
	got(t, f, s, stage2.Leaf{Page: 512, Frame: 9, Perm: r, Level: 3})
	tables(t, f, s, 8, 5)
	unmapped(t, s, 512, 9, api.OK)
	tables(t, f, s, 8, 4)
	is(t, "13.4: Free", s.Free(), api.OK)
	if _, free := f.Free(); free != 8 {
		t.Errorf("13.5: %d table pages are free", free)
	}
}

// TestWordsOfNoEntry: a word without the bit 0 is None, whatever else it has; a table of such words is empty.
func TestWordsOfNoEntry(t *testing.T) {
	f, s := made(t, 64, 4)
	s.Map(5, 9, rw, 0)
	l, _ := walked(f, s, 5)
	table := l[3].At &^ 4095
	for _, i := range []uint64{0, 4, 6, 511} {
		f.Mem().Write(table+8*i, 8, math.MaxUint64-1)
	}
	leaves(t, s, stage2.Leaf{Page: 5, Frame: 9, Perm: rw, Level: 3})
	is(t, "13.1: Map", s.Map(6, 10, r, 2), api.OK)
	got(t, f, s, stage2.Leaf{Page: 6, Frame: 10, Perm: r, Soft: 2, Level: 3})
	unmapped(t, s, 6, 10, api.OK)
	tables(t, f, s, 4, 4)
	unmapped(t, s, 5, 9, api.OK)
	tables(t, f, s, 4, 1)
}

// TestWordsThatMayNotBe: they are no leaves, but not None: their table is there as long as they are.
func TestWordsThatMayNotBe(t *testing.T) {
	f, s := made(t, 64, 4)
	s.Map(5, 9, rw, 0)
	l, _ := walked(f, s, 6)
	f.Mem().Write(l[3].At, 8, 0x9083)
	if _, ok := s.Get(6); ok {
		t.Error("13.4: a word that may not be is a leaf")
	}
	leaves(t, s, stage2.Leaf{Page: 5, Frame: 9, Perm: rw, Level: 3})
	unmapped(t, s, 6, 0, api.ErrNone)
	unmapped(t, s, 5, 9, api.OK)
	tables(t, f, s, 4, 4)
	is(t, "13.1: Map", s.Map(6, 10, r, 0), api.OK)
	got(t, f, s, stage2.Leaf{Page: 6, Frame: 10, Perm: r, Level: 3})
	unmapped(t, s, 6, 10, api.OK)
	tables(t, f, s, 4, 1)
}

// TestEntriesBeyond: the root's entries from the third on are of no page.
func TestEntriesBeyond(t *testing.T) {
	f, s := made(t, 64, 8)
	s.Map(endPage-1, 9, rw, 0)
	l, _ := walked(f, s, endPage-1)
	for i := uint64(2); i < 512; i++ {
		f.Mem().Write(s.Root()+8*i, 8, l[0].Raw)
	}
	leaves(t, s, stage2.Leaf{Page: endPage - 1, Frame: 9, Perm: rw, Level: 3})
	tables(t, f, s, 8, 4)
	gotNone(t, f, s, 2*endPage-1)
}
