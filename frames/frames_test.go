package frames_test

import (
	"bytes"
	"math"
	"math/rand"
	"testing"

	"demesne/api"
	"demesne/buddy"
	"demesne/frames"
	"demesne/phys"
)

// oddFrames are frames of no memory.
var oddFrames = []int{-1, -2, -512, api.MaxFrames, api.MaxFrames + 1, 1 << 32, 1<<32 + 1, -1 << 32, math.MaxInt, math.MaxInt - 1, math.MinInt, math.MinInt + 1}

// made is a memory of n frames, and its frames, of which pool are for tables.
func made(t *testing.T, n, pool int) (*phys.Mem, *frames.Frames) {
	t.Helper()
	m, _ := phys.New(n)
	f, e := frames.New(m, pool)
	if e != api.OK || f == nil || f.Mem() != m {
		t.Fatalf("8.1: New of %d frames, %d for tables: %d", n, pool, e)
	}
	return m, f
}

// told fails the test if a taking call does not answer frame and e.
func told(t *testing.T, name string, take func() (int, api.Errno), frame int, e api.Errno) {
	t.Helper()
	if got, err := take(); got != frame || err != e {
		t.Fatalf("8.2: %s: %d, %d; want %d, %d", name, got, err, frame, e)
	}
}

// counted fails the test if a Ref or Drop does not answer count and e.
func counted(t *testing.T, name string, call func(int) (int, api.Errno), frame, count int, e api.Errno) {
	t.Helper()
	if got, err := call(frame); got != count || err != e {
		t.Fatalf("8.3: %s(%d): %d, %d; want %d, %d", name, frame, got, err, count, e)
	}
}

// free fails the test if not so many frames are free.
func free(t *testing.T, f *frames.Frames, pages, tables int) {
	t.Helper()
	if p, b := f.Free(); p != pages || b != tables {
		t.Fatalf("8.3: Free: %d, %d; want %d, %d", p, b, pages, tables)
	}
}

// mark writes into the frame's first and last words.
func mark(m *phys.Mem, frame int) {
	m.Write(uint64(frame)*api.FrameSize, 8, math.MaxUint64)
	m.Write(uint64(frame+1)*api.FrameSize-8, 8, math.MaxUint64)
}

// full is a page without a 0.
func full() []byte { return bytes.Repeat([]byte{9}, api.FrameSize) }

func TestNew(t *testing.T) {
	for _, c := range [][2]int{{2, 1}, {3, 1}, {3, 2}, {6, 2}, {6, 5}, {1024, 512}, {api.MaxPool + 1, api.MaxPool}, {api.MaxPool + 2, api.MaxPool - 1}, {api.MaxFrames, 1}, {api.MaxFrames, api.MaxPool}} {
		_, f := made(t, c[0], c[1])
		free(t, f, c[0]-c[1], c[1])
		for _, frame := range []int{0, c[1] - 1, c[1], c[0] - 1} {
			if n := f.Count(frame); n != 0 {
				t.Errorf("8.1: Count(%d) at first: %d", frame, n)
			}
		}
	}
}

func TestNewRefusals(t *testing.T) {
	for _, n := range []int{1, 2, 6, api.MaxPool - 1, api.MaxPool, api.MaxPool + 1, api.MaxFrames} {
		m, _ := phys.New(n)
		for _, pool := range []int{0, -1, -512, n, n + 1, api.MaxPool + 1, api.MaxPool + n, api.MaxFrames, 1 << 32, 1<<32 + 1, math.MaxInt, math.MinInt, math.MinInt + 1} {
			if f, e := frames.New(m, pool); f != nil || e != api.ErrArg {
				t.Errorf("8.1: New of %d frames, %d for tables: %v, %d", n, pool, f, e)
			}
		}
	}
	for _, pool := range []int{0, 1, -1, api.MaxPool, api.MaxPool + 1, math.MaxInt, math.MinInt} {
		if f, e := frames.New(nil, pool); f != nil || e != api.ErrArg {
			t.Errorf("8.1: New(nil, %d): %v, %d", pool, f, e)
		}
	}
}

func TestNewLeavesTheMemory(t *testing.T) {
	m, _ := phys.New(4)
	for frame := range 4 {
		m.Set(frame, full())
	}
	frames.New(m, 2)
	frames.New(m, 4)
	for frame := range 4 {
		if l, _ := m.Get(frame); !bytes.Equal(l, full()) {
			t.Errorf("8.1: New changed frame %d", frame)
		}
	}
}

func TestExample(t *testing.T) {
	_, f := made(t, 6, 2)
	told(t, "Table", f.Table, 0, api.OK)
	told(t, "Table", f.Table, 1, api.OK)
	told(t, "Table", f.Table, 0, api.ErrPool)
	told(t, "Page", f.Page, 2, api.OK)
}

func TestTableAndPageAreOfTheirBuddies(t *testing.T) {
	for _, c := range [][2]int{{2, 1}, {3, 1}, {4, 3}, {10, 3}, {40, 7}, {100, 64}, {1030, 5}} {
		n, pool := c[0], c[1]
		_, f := made(t, n, pool)
		tables, _ := buddy.New(0, pool)
		pages, _ := buddy.New(pool, n-pool)
		for i := range pool {
			frame, _ := tables.Take(0)
			told(t, "Table", f.Table, frame, api.OK)
			free(t, f, n-pool, pool-1-i)
			if f.Count(frame) != 1 {
				t.Fatalf("8.2: a table's count is %d", f.Count(frame))
			}
		}
		told(t, "Table", f.Table, 0, api.ErrPool)
		for i := range n - pool {
			frame, _ := pages.Take(0)
			told(t, "Page", f.Page, frame, api.OK)
			free(t, f, n-pool-1-i, 0)
			if f.Count(frame) != 1 {
				t.Fatalf("8.2: a page's count is %d", f.Count(frame))
			}
		}
		told(t, "Page", f.Page, 0, api.ErrMem)
		told(t, "Block", f.Block, 0, api.ErrMem)
		told(t, "Table", f.Table, 0, api.ErrPool)
		free(t, f, 0, 0)
	}
}

// TestLackOfOneKind has one of the two kinds used up, the other not.
func TestLackOfOneKind(t *testing.T) {
	_, f := made(t, 5, 2)
	for range 3 {
		f.Page()
	}
	told(t, "Page", f.Page, 0, api.ErrMem)
	free(t, f, 0, 2)
	told(t, "Table", f.Table, 0, api.OK)
	counted(t, "Drop", f.Drop, 3, 0, api.OK)
	told(t, "Table", f.Table, 1, api.OK)
	told(t, "Table", f.Table, 0, api.ErrPool)
	free(t, f, 1, 0)
	counted(t, "Drop", f.Drop, 1, 0, api.OK)
	told(t, "Page", f.Page, 3, api.OK)
	told(t, "Page", f.Page, 0, api.ErrMem)
	told(t, "Table", f.Table, 1, api.OK)
}

func TestBlock(t *testing.T) {
	m, f := made(t, 2048+3, 4)
	for _, first := range []int{512, 1024, 1536} {
		told(t, "Block", f.Block, first, api.OK)
		for frame := range 512 {
			if f.Count(first+frame) != 1 || !m.Clear(first+frame) {
				t.Fatalf("8.2: Block: frame %d: its count is %d", first+frame, f.Count(first+frame))
			}
		}
		if f.Count(511) != 0 || f.Count(first+512) != 0 {
			t.Fatalf("8.2: Block: %d: a frame beside it has a count", first)
		}
	}
	told(t, "Block", f.Block, 0, api.ErrMem)
	free(t, f, 508+3, 4)
	told(t, "Page", f.Page, 2050, api.OK)
	free(t, f, 508+2, 4)
}

func TestBlockRefusals(t *testing.T) {
	for _, c := range [][2]int{{2, 1}, {512, 1}, {1023, 1}, {1023, 511}, {1024 + 511, 513}, {api.MaxPool + 511, api.MaxPool}} {
		_, f := made(t, c[0], c[1])
		told(t, "Block", f.Block, 0, api.ErrMem)
		free(t, f, c[0]-c[1], c[1])
	}
	// The frames for tables are no blocks', though a run of them is great enough.
	_, f := made(t, 1030, 1024)
	told(t, "Block", f.Block, 0, api.ErrMem)
	// One page in a run is enough for it to be none, as one Drop is for it to be one again.
	_, f = made(t, 1024, 512)
	told(t, "Page", f.Page, 512, api.OK)
	told(t, "Block", f.Block, 0, api.ErrMem)
	free(t, f, 511, 512)
	counted(t, "Drop", f.Drop, 512, 0, api.OK)
	told(t, "Block", f.Block, 512, api.OK)
	free(t, f, 0, 512)
}

func TestBlockIsDroppedFrameByFrame(t *testing.T) {
	m, f := made(t, 1024, 512)
	for range 3 {
		told(t, "Block", f.Block, 512, api.OK)
		for i, at := range rand.New(rand.NewSource(8)).Perm(512) {
			frame := 512 + at
			mark(m, frame)
			if i%7 == 0 {
				counted(t, "Ref", f.Ref, frame, 2, api.OK)
				counted(t, "Drop", f.Drop, frame, 1, api.OK)
			}
			told(t, "Block", f.Block, 0, api.ErrMem)
			counted(t, "Drop", f.Drop, frame, 0, api.OK)
			free(t, f, i+1, 512)
		}
	}
}

// TestToldFramesAreZeroed has free frames written into.
func TestToldFramesAreZeroed(t *testing.T) {
	m, f := made(t, 1030, 4)
	for frame := range 1030 {
		m.Set(frame, full())
	}
	// Each told frame is 0 all over, and no other one has become so.
	zeroed := map[int]int{}
	look := func(first, n int) {
		t.Helper()
		for frame := first; frame < first+n; frame++ {
			zeroed[frame] = 1
		}
		for frame := range 1030 {
			l, _ := m.Get(frame)
			if zeroed[frame] == 1 && !m.Clear(frame) || zeroed[frame] == 0 && !bytes.Equal(l, full()) {
				t.Fatalf("8.2: %d frames from %d on are told, and frame %d is wrong", n, first, frame)
			}
		}
	}
	table, _ := f.Table()
	look(table, 1)
	page, _ := f.Page()
	look(page, 1)
	block, _ := f.Block()
	look(block, 512)
	f.Block()
	look(0, 0)
	f.Ref(page)
	look(0, 0)
}

func TestRefAndDrop(t *testing.T) {
	m, f := made(t, 8, 3)
	table, _ := f.Table()
	page, _ := f.Page()
	other, _ := f.Page()
	for _, frame := range []int{table, page} {
		l := full()
		m.Set(frame, l)
		m.Set(other, l)
		for n := 2; n <= 50; n++ {
			counted(t, "Ref", f.Ref, frame, n, api.OK)
			if f.Count(frame) != n {
				t.Fatalf("8.3: Count(%d): %d; want %d", frame, f.Count(frame), n)
			}
		}
		pages, tables := f.Free()
		for n := 49; n >= 1; n-- {
			counted(t, "Drop", f.Drop, frame, n, api.OK)
			if got, _ := m.Get(frame); f.Count(frame) != n || !bytes.Equal(got, l) {
				t.Fatalf("8.3: Count(%d): %d; want %d, and its bytes", frame, f.Count(frame), n)
			}
			free(t, f, pages, tables)
		}
		counted(t, "Drop", f.Drop, frame, 0, api.OK)
		if f.Count(frame) != 0 || !m.Clear(frame) {
			t.Fatalf("8.3: the last Drop(%d): Count %d", frame, f.Count(frame))
		}
		if got, _ := m.Get(other); f.Count(other) != 1 || !bytes.Equal(got, l) {
			t.Fatalf("8.3: Drop(%d) changed frame %d", frame, other)
		}
		counted(t, "Drop", f.Drop, frame, 0, api.ErrState)
		counted(t, "Ref", f.Ref, frame, 0, api.ErrState)
	}
	free(t, f, 4, 3)
	told(t, "Page", f.Page, page, api.OK)
	told(t, "Table", f.Table, table, api.OK)
	if f.Count(page) != 1 || f.Count(table) != 1 {
		t.Error("8.2: the count of a frame that is taken anew is not 1")
	}
}

func TestCountsOfFreeFramesAndOfNone(t *testing.T) {
	m, f := made(t, 8, 3)
	for frame := range 8 {
		m.Set(frame, full())
	}
	table, _ := f.Table()
	page, _ := f.Page()
	mark(m, table)
	mark(m, page)
	refused := append([]int{8, 9, 512, 4096}, oddFrames...)
	for frame := range 8 {
		if frame != table && frame != page {
			refused = append(refused, frame)
		}
	}
	for _, frame := range refused {
		counted(t, "Ref", f.Ref, frame, 0, api.ErrState)
		counted(t, "Drop", f.Drop, frame, 0, api.ErrState)
		if n := f.Count(frame); n != 0 {
			t.Errorf("8.3: Count(%d): %d", frame, n)
		}
		// A refused Drop leaves a free frame's bytes, wrong as they are there.
		if m.Clear(frame) {
			t.Errorf("8.3: a refused Drop zeroed frame %d", frame)
		}
	}
	free(t, f, 4, 2)
	if f.Count(table) != 1 || f.Count(page) != 1 || m.Clear(table) || m.Clear(page) {
		t.Error("8.3: a refused call changed a taken frame")
	}
}

func TestFramesOfTwoMemoriesAreApart(t *testing.T) {
	_, a := made(t, 6, 2)
	_, b := made(t, 6, 2)
	told(t, "Page", a.Page, 2, api.OK)
	counted(t, "Ref", b.Ref, 2, 0, api.ErrState)
	free(t, a, 3, 2)
	free(t, b, 4, 2)
	told(t, "Page", b.Page, 2, api.OK)
}

func TestNothingHereIsAnAccess(t *testing.T) {
	m, f := made(t, 1024, 512)
	f.Table()
	f.Block()
	f.Ref(0)
	f.Drop(0)
	f.Drop(512)
	if m.Ops() != 0 {
		t.Errorf("8.2: %d Reads and Writes of the memory", m.Ops())
	}
}

// TestAllFrames takes all the frames of the greatest memory, and drops them jumbled.
func TestAllFrames(t *testing.T) {
	const n, pool = api.MaxFrames, api.MaxPool
	_, f := made(t, n, pool)
	seen := make([]bool, n)
	take := func(name string, call func() (int, api.Errno), from, to int) {
		t.Helper()
		frame, e := call()
		if e != api.OK || frame < from || frame >= to || seen[frame] {
			t.Fatalf("8.4: %s: %d, %d", name, frame, e)
		}
		seen[frame] = true
	}
	for range pool {
		take("Table", f.Table, 0, pool)
	}
	for range n - pool {
		take("Page", f.Page, pool, n)
	}
	free(t, f, 0, 0)
	for _, frame := range rand.New(rand.NewSource(80)).Perm(n) {
		counted(t, "Drop", f.Drop, frame, 0, api.OK)
	}
	free(t, f, n-pool, pool)
	for first := pool; first < n; first += 512 {
		told(t, "Block", f.Block, first, api.OK)
	}
	told(t, "Page", f.Page, 0, api.ErrMem)
}

// plain is frames as the chapter tells them: a count of each frame, the bytes of the memory's first words, and two buddies.
type plain struct {
	counts        []int
	words         []uint64
	pool          int
	tables, pages *buddy.Buddy
}

func newPlain(n, pool int) *plain {
	tables, _ := buddy.New(0, pool)
	pages, _ := buddy.New(pool, n-pool)
	return &plain{make([]int, n), make([]uint64, n), pool, tables, pages}
}

func (p *plain) take(b *buddy.Buddy, order int, lack api.Errno) (int, api.Errno) {
	frame, e := b.Take(order)
	if e != api.OK {
		return 0, lack
	}
	for i := range 1 << order {
		p.counts[frame+i] = 1
	}
	return frame, api.OK
}

func (p *plain) drop(frame int) (int, api.Errno) {
	if p.counts[frame] == 0 {
		return 0, api.ErrState
	}
	p.counts[frame]--
	if p.counts[frame] > 0 {
		return p.counts[frame], api.OK
	}
	p.words[frame] = 0
	if frame < p.pool {
		return 0, p.tables.Give(frame, 0)
	}
	return 0, p.pages.Give(frame, 0)
}

func (p *plain) ref(frame int) (int, api.Errno) {
	if p.counts[frame] == 0 {
		return 0, api.ErrState
	}
	p.counts[frame]++
	return p.counts[frame], api.OK
}

// TestAgainstPlain writes into taken frames alone: so the free ones must be 0 all the time.
func TestAgainstPlain(t *testing.T) {
	r := rand.New(rand.NewSource(88))
	for _, c := range [][2]int{{2, 1}, {9, 4}, {30, 6}, {1030, 3}, {1540, 516}} {
		n, pool := c[0], c[1]
		m, f := made(t, n, pool)
		p := newPlain(n, pool)
		for range 3000 {
			step(t, r, m, f, p)
		}
		for frame := range n {
			for p.counts[frame] > 0 {
				count, e := p.drop(frame)
				counted(t, "Drop", f.Drop, frame, count, e)
			}
		}
		same(t, m, f, p)
		free(t, f, n-pool, pool)
	}
}

// step does one thing with both, and fails the test if they do not answer alike.
func step(t *testing.T, r *rand.Rand, m *phys.Mem, f *frames.Frames, p *plain) {
	t.Helper()
	frame := r.Intn(len(p.counts))
	switch r.Intn(20) {
	case 0:
		want, e := p.take(p.pages, 9, api.ErrMem)
		told(t, "Block", f.Block, want, e)
	case 1, 2:
		want, e := p.take(p.tables, 0, api.ErrPool)
		told(t, "Table", f.Table, want, e)
	case 3, 4, 5, 6:
		want, e := p.take(p.pages, 0, api.ErrMem)
		told(t, "Page", f.Page, want, e)
	case 7, 8, 9:
		count, e := p.ref(frame)
		counted(t, "Ref", f.Ref, frame, count, e)
	case 10, 11:
		if p.counts[frame] > 0 {
			p.words[frame] = r.Uint64()
			m.Write(uint64(frame)*api.FrameSize+8, 8, p.words[frame])
		}
	case 12:
		same(t, m, f, p)
	default:
		count, e := p.drop(frame)
		counted(t, "Drop", f.Drop, frame, count, e)
	}
}

// same fails the test if both do not have the same counts, words and free frames.
func same(t *testing.T, m *phys.Mem, f *frames.Frames, p *plain) {
	t.Helper()
	free(t, f, p.pages.Free(), p.tables.Free())
	for frame, count := range p.counts {
		if f.Count(frame) != count {
			t.Fatalf("8.3: Count(%d): %d; want %d", frame, f.Count(frame), count)
		}
		if v, _ := m.Read(uint64(frame)*api.FrameSize+8, 8); v != p.words[frame] || m.Clear(frame) != (v == 0) {
			t.Fatalf("8.4: frame %d, its count being %d, has %d; want %d", frame, count, v, p.words[frame])
		}
	}
}
