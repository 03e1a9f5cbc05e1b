package stage2_test

import (
	"bytes"
	"math/rand"
	"slices"
	"testing"

	"demesne/api"
	"demesne/frames"
	"demesne/stage2"
)

// plain is a second stage as the chapter tells it, without tables: what each mapped page is mapped to, Level 2 in a Block; and how many pages are mapped below each table that there must be, by its level and its pages' high bits.
type plain struct {
	frames, pool int
	pages        map[uint64]stage2.Leaf
	below        map[[2]uint64]int
}

func newPlain(n, pool int) *plain {
	return &plain{n, pool, map[uint64]stage2.Leaf{}, map[[2]uint64]int{}}
}

// ways are the tables beside the root on the way to the leaf.
func ways(l stage2.Leaf) [][2]uint64 {
	var keys [][2]uint64
	for level := 1; level <= l.Level; level++ {
		keys = append(keys, [2]uint64{uint64(level), l.Page >> (9 * (4 - level))})
	}
	return keys
}

func (p *plain) put(l stage2.Leaf) {
	p.remove(l.Page)
	p.pages[l.Page] = l
	for _, key := range ways(l) {
		p.below[key]++
	}
}

func (p *plain) remove(page uint64) {
	for _, key := range ways(p.pages[page]) {
		p.below[key]--
		if p.below[key] == 0 {
			delete(p.below, key)
		}
	}
	delete(p.pages, page)
}

// tables is how many there must be: the root, and each that has a leaf below it.
func (p *plain) tables() int { return 1 + len(p.below) }

// lack is how many tables more there are with the leaf.
func (p *plain) lack(l stage2.Leaf) int {
	n := 0
	for _, key := range ways(l) {
		if p.below[key] == 0 {
			n++
		}
	}
	return n
}

func (p *plain) need(page uint64) int {
	if _, ok := p.pages[page]; ok || page >= endPage {
		return 0
	}
	return p.lack(stage2.Leaf{Page: page, Level: 3})
}

func wrongMarking(p api.Perm, soft int) bool { return p.W && !p.R || soft < 0 || soft > 15 }

func (p *plain) mapPage(l stage2.Leaf) api.Errno {
	_, there := p.pages[l.Page]
	switch {
	case l.Page >= endPage || l.Frame < 0 || l.Frame >= p.frames:
		return api.ErrRange
	case wrongMarking(l.Perm, l.Soft):
		return api.ErrArg
	case there:
		return api.ErrThere
	case p.pool-p.tables() < p.need(l.Page):
		return api.ErrPool
	}
	p.put(l)
	return api.OK
}

func (p *plain) mapBlock(l stage2.Leaf) api.Errno {
	there := false
	for i := range uint64(512) {
		_, ok := p.pages[l.Page+i]
		there = there || ok
	}
	switch {
	case l.Page >= endPage || l.Frame < 0 || l.Frame+512 > p.frames:
		return api.ErrRange
	case wrongMarking(l.Perm, l.Soft):
		return api.ErrArg
	case l.Page%512 != 0 || l.Frame%512 != 0:
		return api.ErrAlign
	case there:
		return api.ErrThere
	case p.pool-p.tables() < p.lack(l):
		return api.ErrPool
	}
	p.setBlock(l)
	return api.OK
}

// setBlock makes the 512 pages of l's block follow l.
func (p *plain) setBlock(l stage2.Leaf) {
	for range 512 {
		p.put(l)
		l.Page++
		l.Frame++
	}
}

// blockOf is what the first page of the page's block is mapped to.
func (p *plain) blockOf(page uint64) stage2.Leaf { return p.pages[page&^511] }

func (p *plain) split(page uint64) api.Errno {
	l, there := p.pages[page]
	switch {
	case !there:
		return api.ErrNone
	case l.Level != 2:
		return api.ErrState
	case p.tables() == p.pool:
		return api.ErrPool
	}
	block := p.blockOf(page)
	block.Level = 3
	p.setBlock(block)
	return api.OK
}

func (p *plain) join(page uint64) api.Errno {
	l, there := p.pages[page]
	switch {
	case !there:
		return api.ErrNone
	case l.Level != 3:
		return api.ErrState
	}
	block := p.blockOf(page)
	for i := range uint64(512) {
		want := block
		want.Page = page&^511 + i
		want.Frame += int(i)
		if p.pages[page&^511+i] != want || block.Frame%512 != 0 {
			return api.ErrState
		}
	}
	block.Level = 2
	p.setBlock(block)
	return api.OK
}

func (p *plain) unmap(page uint64) (int, api.Errno) {
	l, there := p.pages[page]
	if !there {
		return 0, api.ErrNone
	}
	if l.Level == 2 && p.split(page) != api.OK {
		return 0, api.ErrPool
	}
	p.remove(page)
	return l.Frame, api.OK
}

func (p *plain) protect(page uint64, perm api.Perm, soft int) api.Errno {
	l, there := p.pages[page]
	switch {
	case wrongMarking(perm, soft):
		return api.ErrArg
	case !there:
		return api.ErrNone
	case l.Perm == perm && l.Soft == soft:
		return api.OK
	case l.Level == 2 && p.split(page) != api.OK:
		return api.ErrPool
	}
	l.Perm, l.Soft, l.Level = perm, soft, 3
	p.put(l)
	return api.OK
}

func (p *plain) leaves() []stage2.Leaf {
	var l []stage2.Leaf
	for page, leaf := range p.pages {
		if leaf.Level == 3 || page%512 == 0 {
			l = append(l, leaf)
		}
	}
	slices.SortFunc(l, func(a, b stage2.Leaf) int { return int(a.Page) - int(b.Page) })
	return l
}

// somePage is a page of a few blocks, or one that is none.
func somePage(rnd *rand.Rand) uint64 {
	blocks := []uint64{0, 512, 1024, 1 << 18, 1<<18 + 512, 1 << 27, endPage - 512, endPage - 512}
	page := blocks[rnd.Intn(len(blocks))]
	switch rnd.Intn(4) {
	case 0:
		page += uint64(rnd.Intn(512))
	case 1:
		page += uint64(rnd.Intn(3))
	}
	if rnd.Intn(40) == 0 {
		page += endPage
	}
	return page
}

// somePerm is one of two most often, so that pages may be alike.
func somePerm(rnd *rand.Rand) api.Perm {
	if rnd.Intn(6) > 0 {
		return []api.Perm{rw, rx}[rnd.Intn(2)]
	}
	return api.Perm{R: rnd.Intn(2) == 0, W: rnd.Intn(2) == 0, X: rnd.Intn(2) == 0}
}

func someSoft(rnd *rand.Rand) int {
	if rnd.Intn(10) == 0 {
		return rnd.Intn(20) - 2
	}
	return 5
}

// step does one thing with both and tells how both answered; two frames beside it are those that they told.
func step(rnd *rand.Rand, s *stage2.Table, p *plain) (what string, is, want api.Errno, frames [2]int) {
	page, perm, soft := somePage(rnd), somePerm(rnd), someSoft(rnd)
	frame := rnd.Intn(5)*512 + rnd.Intn(2)*rnd.Intn(512)
	switch rnd.Intn(10) {
	case 0:
		l := stage2.Leaf{Page: page, Frame: frame, Perm: perm, Soft: soft, Level: 3}
		return "13.1: Map", s.Map(page, frame, perm, soft), p.mapPage(l), frames
	case 1, 2, 3:
		if rnd.Intn(4) > 0 {
			page, frame = page&^511, frame&^511
		}
		l := stage2.Leaf{Page: page, Frame: frame, Perm: perm, Soft: soft, Level: 2}
		return "13.2: MapBlock", s.MapBlock(page, frame, perm, soft), p.mapBlock(l), frames
	case 4, 5:
		return "13.2: Split", s.Split(page), p.split(page), frames
	case 6, 7:
		return "13.2: Join", s.Join(page), p.join(page), frames
	case 8:
		return "13.3: Protect", s.Protect(page, perm, soft), p.protect(page, perm, soft), frames
	}
	frames[0], is = s.Unmap(page)
	frames[1], want = p.unmap(page)
	return "13.3: Unmap", is, want, frames
}

// wipe unmaps all pages of a block, so that there may be a Block again.
func wipe(t *testing.T, rnd *rand.Rand, s *stage2.Table, p *plain) {
	t.Helper()
	first := somePage(rnd) &^ 511
	for _, i := range rnd.Perm(512) {
		frame, e := p.unmap(first + uint64(i))
		unmapped(t, s, first+uint64(i), frame, e)
		if e == api.ErrPool {
			return
		}
	}
}

// mend makes the pages of a block follow its first one, but for those whose frames do not.
func mend(t *testing.T, rnd *rand.Rand, s *stage2.Table, p *plain) {
	t.Helper()
	first := somePage(rnd) &^ 511
	l := p.blockOf(first)
	l.Page, l.Level = first, 3
	for range 512 {
		is(t, "13.3: Protect", s.Protect(l.Page, l.Perm, l.Soft), p.protect(l.Page, l.Perm, l.Soft))
		is(t, "13.1: Map", s.Map(l.Page, l.Frame, l.Perm, l.Soft), p.mapPage(l))
		l.Page++
		l.Frame++
	}
}

// alike fails the test if both do not tell the same.
func alike(t *testing.T, rnd *rand.Rand, f *frames.Frames, s *stage2.Table, p *plain) {
	t.Helper()
	tables(t, f, s, p.pool, p.tables())
	leaves(t, s, p.leaves()...)
	for range 2 {
		page := somePage(rnd)
		if n := s.Need(page); n != p.need(page) {
			t.Fatalf("13.1: Need(%#x): %d; want %d", page, n, p.need(page))
		}
		if l, there := p.pages[page]; there {
			got(t, f, s, l)
		} else {
			gotNone(t, f, s, page)
		}
	}
}

// TestAgainstPlain does many things with pools of which some lack.
func TestAgainstPlain(t *testing.T) {
	rnd := rand.New(rand.NewSource(13))
	done := map[string]int{}
	for _, pool := range []int{1, 3, 4, 5, 7, 9, 12, 20, 20} {
		const n = 2048 + 100
		f, s := made(t, n, pool)
		p := newPlain(n, pool)
		for range 300 {
			before := bytesOf(f, pool)
			what, e, want, frames := step(rnd, s, p)
			is(t, what, e, want)
			if frames[0] != frames[1] {
				t.Fatalf("13.3: Unmap told the frame %d; want %d", frames[0], frames[1])
			}
			if e != api.OK && !bytes.Equal(before, bytesOf(f, pool)) {
				t.Fatalf("13.5: %s: %d, and something has changed", what, e)
			}
			if e == api.OK {
				done[what]++
			}
			switch rnd.Intn(12) {
			case 0:
				wipe(t, rnd, s, p)
			case 1:
				mend(t, rnd, s, p)
			}
			alike(t, rnd, f, s, p)
		}
		for _, l := range p.leaves() {
			if l.Level == 2 && p.tables() < pool && rnd.Intn(2) == 0 {
				unmapped(t, s, l.Page, l.Frame, api.OK)
				p.unmap(l.Page)
			}
		}
		alike(t, rnd, f, s, p)
		is(t, "13.4: Free", s.Free(), api.OK)
		if _, free := f.Free(); free != pool || !bytes.Equal(bytesOf(f, pool), make([]byte, pool*api.FrameSize+n)) {
			t.Fatalf("13.5: %d of %d table pages came back", free, pool)
		}
	}
	for _, what := range []string{"13.1: Map", "13.2: MapBlock", "13.2: Split", "13.2: Join", "13.3: Protect", "13.3: Unmap"} {
		if done[what] < 20 {
			t.Errorf("only %d of %s were OK", done[what], what)
		}
	}
}

// TestWildTables: whatever stands in the tables, loops too, every call ends and none panics.
func TestWildTables(t *testing.T) {
	rnd := rand.New(rand.NewSource(130))
	for range 1500 {
		f, s := made(t, 1100, 8)
		for range 4 {
			s.Map(somePage(rnd), 20, rw, 0)
			s.MapBlock(somePage(rnd)&^511, 512, rw, 0)
		}
		for range 1 + rnd.Intn(12) {
			w := uint64(rnd.Intn(10))<<12 | 3
			switch rnd.Intn(6) {
			case 0:
				w = rnd.Uint64()
			case 1:
				w = uint64(rnd.Intn(4))<<30 | 0xC1
			case 2:
				w |= 1 << 31
			}
			f.Mem().Write(uint64(rnd.Intn(8))<<12+uint64(rnd.Intn(3))*uint64(rnd.Intn(2))*8, 8, w)
		}
		p := newPlain(1100, 8)
		for range 20 {
			step(rnd, s, p)
			s.Get(somePage(rnd))
			s.Need(somePage(rnd))
		}
		s.Tables()
		s.Leaves()
		is(t, "13.4: Free", s.Free(), api.OK)
		is(t, "13.4: Free", s.Free(), api.ErrNone)
	}
}

// TestManyPages fills tables and empties them in a jumbled order.
func TestManyPages(t *testing.T) {
	const n, pool = 1 << 15, 256
	f, s := made(t, n+pool, pool)
	rnd := rand.New(rand.NewSource(1300))
	order := rnd.Perm(n)
	for _, i := range order {
		is(t, "13.1: Map", s.Map(1<<27-n/2+uint64(i), pool+i, rw, i%16), api.OK)
	}
	tables(t, f, s, pool, 1+2+2+n/512)
	for i, l := range s.Leaves() {
		if want := (stage2.Leaf{Page: 1<<27 - n/2 + uint64(i), Frame: pool + i, Perm: rw, Soft: i % 16, Level: 3}); l != want {
			t.Fatalf("13.5: %+v; want %+v", l, want)
		}
	}
	for _, i := range rnd.Perm(n) {
		unmapped(t, s, 1<<27-n/2+uint64(i), pool+i, api.OK)
	}
	tables(t, f, s, pool, 1)
}
