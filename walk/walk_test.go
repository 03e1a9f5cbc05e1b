package walk_test

import (
	"errors"
	"math"
	"math/rand"
	"slices"
	"testing"

	"demesne/api"
	"demesne/desc"
	"demesne/walk"
)

const stopped = -1

// noStages are no stage, those beside the two among them and those whose low bits are one.
var noStages = []int{math.MinInt, math.MinInt + 1, math.MinInt + 2, -1<<32 + 1, -2, -1, 0, 3, 4, 1<<8 + 1, 1<<32 + 1, 1<<32 + 2, math.MaxInt}

var noLevels = []int{math.MinInt, math.MinInt + 3, -1<<32 + 2, -4, -1, 4, 5, 64, 1<<8 + 2, 1<<32 + 3, math.MaxInt}

// shifts are the lowest bits of a level's index.
var shifts = [4]int{39, 30, 21, 12}

// memory is words by their places; a place without one is refused.
type memory map[uint64]uint64

func (m memory) read(at uint64) (uint64, bool) {
	w, ok := m[at]
	return w, ok
}

// asked is a read that notes what it is asked.
func asked(read func(uint64) (uint64, bool), l *[]uint64) func(uint64) (uint64, bool) {
	return func(at uint64) (uint64, bool) {
		*l = append(*l, at)
		return read(at)
	}
}

// way is an address with a table of each level on its way: entry 1, 2, 3, 4 of the tables at 0x1000, 0x2000, 0x3000, 0x4000, and a page behind it.
const way = 1<<39 | 2<<30 | 3<<21 | 4<<12 | 5

var wayAt = [4]uint64{0x1008, 0x2010, 0x3018, 0x4020}

func wayMemory() memory {
	return memory{0x1008: 0x2003, 0x2010: 0x3003, 0x3018: 0x4003, 0x4020: 0x90C3}
}

func waySteps() []walk.Step {
	return []walk.Step{
		{Level: 0, At: 0x1008, Raw: 0x2003, Desc: api.Desc{Kind: api.Table, Addr: 0x2000}},
		{Level: 1, At: 0x2010, Raw: 0x3003, Desc: api.Desc{Kind: api.Table, Addr: 0x3000}},
		{Level: 2, At: 0x3018, Raw: 0x4003, Desc: api.Desc{Kind: api.Table, Addr: 0x4000}},
		{Level: 3, At: 0x4020, Raw: 0x90C3, Desc: api.Desc{Kind: api.Page, Addr: 0x9000, Perm: api.Perm{R: true, W: true}}},
	}
}

func TestWholeWay(t *testing.T) {
	for stage := 1; stage <= 2; stage++ {
		var places []uint64
		l, kind := walk.Walk(stage, 0x1000, way, asked(wayMemory().read, &places))
		if !slices.Equal(l, waySteps()) || kind != api.NoFault {
			t.Errorf("12.1: stage %d: %+v, %d", stage, l, kind)
		}
		if !slices.Equal(places, wayAt[:]) {
			t.Errorf("12.1: stage %d: asked for %#x", stage, places)
		}
		if got := walk.Out(way, l[3]); got != 0x9005 {
			t.Errorf("12.2: stage %d: %#x", stage, got)
		}
	}
}

// TestLastEntry puts each kind of word at each level of the way.
func TestLastEntry(t *testing.T) {
	for i, c := range []struct {
		stage, level int
		word         uint64
		kind         int
		d            api.Desc
	}{
		// None: whatever else stands in the word.
		{1, 0, 0, api.Translation, api.Desc{}},
		{2, 1, 0, api.Translation, api.Desc{}},
		{1, 2, 0, api.Translation, api.Desc{}},
		{2, 3, 0, api.Translation, api.Desc{}},
		{1, 0, 2, api.Translation, api.Desc{}},
		{2, 3, 1<<64 - 2, api.Translation, api.Desc{}},
		{1, 1, 1 << 47, api.Translation, api.Desc{}},
		// Beyond: stage 1's addresses are below 2^40, stage 2's below 2^32.
		{1, 0, 1<<40 | 3, api.Size, api.Desc{}},
		{1, 3, 1<<40 | 3, api.Size, api.Desc{}},
		{1, 2, 1<<40 | 1, api.Size, api.Desc{}},
		{1, 2, 1<<40 | 1<<12 | 1, api.Size, api.Desc{}},
		{1, 1, 1<<47 | 3, api.Size, api.Desc{}},
		{2, 0, 1<<32 | 3, api.Size, api.Desc{}},
		{2, 1, 1<<32 | 1, api.Size, api.Desc{}},
		{2, 2, 1<<39 | 3, api.Size, api.Desc{}},
		{2, 3, 1<<32 | 0xC3, api.Size, api.Desc{}},
		// An entry that may not be, beyond or not.
		{1, 0, 1, api.Form, api.Desc{}},
		{2, 0, 1<<39 | 1, api.Form, api.Desc{}},
		{1, 3, 1, api.Form, api.Desc{}},
		{2, 2, 0x3001, api.Form, api.Desc{}},
		{2, 1, 0x200001, api.Form, api.Desc{}},
		{1, 1, 7, api.Form, api.Desc{}},
		{1, 2, 0x43, api.Form, api.Desc{}},
		{2, 3, 0x83, api.Form, api.Desc{}},
		{1, 3, 1<<40 | 0x83, api.Form, api.Desc{}},
		{2, 3, 1<<48 | 3, api.Form, api.Desc{}},
		{2, 0, 1<<63 | 3, api.Form, api.Desc{}},
		{1, 0, 1<<64 - 1, api.Form, api.Desc{}},
		// Ends.
		{1, 3, 3, api.NoFault, api.Desc{Kind: api.Page}},
		{2, 3, 0x1C3, api.NoFault, api.Desc{Kind: api.Page, Perm: api.Perm{R: true, W: true, X: true}}},
		{2, 3, 0xFFFFF143, api.NoFault, api.Desc{Kind: api.Page, Addr: 0xFFFFF000, Perm: api.Perm{R: true, X: true}}},
		{1, 3, 1<<40 - 4096 | 3, api.NoFault, api.Desc{Kind: api.Page, Addr: 1<<40 - 4096}},
		{1, 3, 1<<32 | 3, api.NoFault, api.Desc{Kind: api.Page, Addr: 1 << 32}},
		{2, 2, 0x200041, api.NoFault, api.Desc{Kind: api.Block, Addr: 0x200000, Perm: api.Perm{R: true}}},
		{1, 2, 1<<40 - 1<<21 | 1, api.NoFault, api.Desc{Kind: api.Block, Addr: 1<<40 - 1<<21}},
		{1, 1, 1<<30 | 15<<55 | 0xC1, api.NoFault, api.Desc{Kind: api.Block, Addr: 1 << 30, Perm: api.Perm{R: true, W: true}, Soft: 15}},
		{2, 1, 3<<30 | 1, api.NoFault, api.Desc{Kind: api.Block, Addr: 3 << 30}},
		{2, 3, 5<<55 | 0x7103, api.NoFault, api.Desc{Kind: api.Page, Addr: 0x7000, Perm: api.Perm{X: true}, Soft: 5}},
	} {
		m := wayMemory()
		m[wayAt[c.level]] = c.word
		want := waySteps()[:c.level+1]
		want[c.level].Raw, want[c.level].Desc = c.word, c.d
		var places []uint64
		l, kind := walk.Walk(c.stage, 0x1000, way, asked(m.read, &places))
		if !slices.Equal(l, want) || kind != c.kind {
			t.Errorf("12.1: row %d: %+v, %d, not %+v, %d", i, l, kind, want, c.kind)
		}
		if !slices.Equal(places, wayAt[:c.level+1]) {
			t.Errorf("12.1: row %d: asked for %#x", i, places)
		}
	}
}

// TestSoftOfTables: a table's Soft is told and does not lead elsewhere.
func TestSoftOfTables(t *testing.T) {
	m, want := wayMemory(), waySteps()
	for level := range 3 {
		m[wayAt[level]] |= uint64(9+level) << 55
		want[level].Raw = m[wayAt[level]]
		want[level].Desc.Soft = 9 + level
	}
	if l, kind := walk.Walk(2, 0x1000, way, m.read); !slices.Equal(l, want) || kind != api.NoFault {
		t.Errorf("12.1: %+v, %d", l, kind)
	}
}

// TestStop: the read that fails is no Step; those before it are; what stands beside its false is not looked at.
func TestStop(t *testing.T) {
	for stage := 1; stage <= 2; stage++ {
		for level := range 4 {
			for _, beside := range []uint64{0, 3, 0x4003, 1<<40 | 3, 1<<64 - 1} {
				var places []uint64
				l, kind := walk.Walk(stage, 0x1000, way, asked(func(at uint64) (uint64, bool) {
					if at == wayAt[level] {
						return beside, false
					}
					return wayMemory().read(at)
				}, &places))
				if !slices.Equal(l, waySteps()[:level]) || kind != stopped {
					t.Errorf("12.1: stage %d, a stop at level %d: %+v, %d", stage, level, l, kind)
				}
				if !slices.Equal(places, wayAt[:level+1]) {
					t.Errorf("12.1: stage %d, a stop at level %d: asked for %#x", stage, level, places)
				}
			}
		}
	}
}

func TestNilRead(t *testing.T) {
	for stage := 1; stage <= 2; stage++ {
		for _, root := range []uint64{0, 0x1000, 1<<64 - 1} {
			if l, kind := walk.Walk(stage, root, way, nil); len(l) != 0 || kind != stopped {
				t.Errorf("12.1: stage %d, a nil read: %+v, %d", stage, l, kind)
			}
		}
	}
}

func TestNoStage(t *testing.T) {
	for _, stage := range noStages {
		var places []uint64
		for _, read := range []func(uint64) (uint64, bool){nil, asked(wayMemory().read, &places), asked(memory{}.read, &places)} {
			if l, kind := walk.Walk(stage, 0x1000, way, read); len(l) != 0 || kind != api.Form {
				t.Errorf("12.1: the stage %d: %+v, %d", stage, l, kind)
			}
		}
		if len(places) != 0 {
			t.Errorf("12.1: the stage %d: asked for %#x", stage, places)
		}
	}
}

// TestPanickingRead: a read that panics told nothing, and the panic stays inside.
func TestPanickingRead(t *testing.T) {
	for _, what := range []any{"a text", errors.New("an error"), 7, nil} {
		for level := range 4 {
			l, kind := walk.Walk(1, 0x1000, way, func(at uint64) (uint64, bool) {
				if at == wayAt[level] {
					panic(what)
				}
				return wayMemory().read(at)
			})
			if !slices.Equal(l, waySteps()[:level]) || kind != stopped {
				t.Errorf("12.1: a panic at level %d: %+v, %d", level, l, kind)
			}
		}
	}
	none := []uint64{}
	if l, kind := walk.Walk(2, 0, 0, func(at uint64) (uint64, bool) { return none[at], true }); len(l) != 0 || kind != stopped {
		t.Errorf("12.1: an index that is out: %+v, %d", l, kind)
	}
}

// TestWhereEntriesLie: at the table and 8 times the index, whatever the table's address is.
func TestWhereEntriesLie(t *testing.T) {
	roots := []uint64{0, 1, 7, 0x1000, 0x1FFF, 1 << 32, 1<<40 + 8, 1<<48 - 4096, 1 << 63, 1<<64 - 4096, 1<<64 - 8, 1<<64 - 1}
	indices := []uint64{0, 1, 2, 255, 256, 510, 511}
	for _, root := range roots {
		for _, index := range indices {
			for _, others := range []uint64{0, 1<<39 - 1, 0xFFFF << 48, ^uint64(511 << 39)} {
				addr := index<<39 | others
				at := root
				for range index {
					at += 8
				}
				l, kind := walk.Walk(2, root, addr, func(uint64) (uint64, bool) { return 1, true })
				want := []walk.Step{{Level: 0, At: at, Raw: 1}}
				if !slices.Equal(l, want) || kind != api.Form {
					t.Fatalf("12.1: root %#x, addr %#x: %+v, %d, not %+v", root, addr, l, kind, want)
				}
			}
		}
	}
}

// TestIndexOfEachLevel: each bit of an address moves the entry of its own level alone.
func TestIndexOfEachLevel(t *testing.T) {
	tables := [4]uint64{0x1000, 0x2000, 0x3000, 0x4000}
	for bit := range 64 {
		l, kind := walk.Walk(1, tables[0], 1<<bit, func(at uint64) (uint64, bool) {
			if at >= tables[3] {
				return 0x9003, true
			}
			return at&^4095 + 4096 | 3, true
		})
		if len(l) != 4 || kind != api.NoFault {
			t.Fatalf("12.1: bit %d: %+v, %d", bit, l, kind)
		}
		for level, s := range l {
			at := tables[level]
			if shift := shifts[level]; bit >= shift && bit < shift+9 {
				at += 8 << (bit - shift)
			}
			if s.At != at || s.Level != level {
				t.Errorf("12.1: bit %d, level %d: at %#x, not %#x", bit, level, s.At, at)
			}
		}
	}
}

// model is the chapter's walk, said level by level.
func model(stage int, root, addr uint64, read func(uint64) (uint64, bool)) (l []walk.Step, kind int) {
	for level := range 4 {
		at := root + (addr>>shifts[level])%512*8
		w, ok := read(at)
		if !ok {
			return l, stopped
		}
		d, e := desc.Decode(stage, level, w)
		l = append(l, walk.Step{Level: level, At: at, Raw: w, Desc: d})
		if e != api.OK {
			return l, map[api.Errno]int{api.ErrRange: api.Size, api.ErrForm: api.Form}[e]
		}
		switch d.Kind {
		case api.None:
			return l, api.Translation
		case api.Block, api.Page:
			return l, api.NoFault
		}
		root = d.Addr
	}
	panic("a table at the level 3")
}

// wildWord is a word of any kind, tables of a few places most often.
func wildWord(r *rand.Rand) uint64 {
	w := uint64(r.Intn(8))<<12 | 3
	switch r.Intn(8) {
	case 0:
		w ^= uint64(1) << r.Intn(64)
	case 1:
		w = r.Uint64()
	case 2:
		w = uint64(r.Intn(4))<<30 | 1 | uint64(r.Intn(8))<<6
	case 3:
		w |= uint64(r.Intn(8))<<6 | uint64(r.Intn(16))<<55
	}
	return w
}

// TestManyTables holds walks through tables that say anything against the model; tables within themselves are among them.
func TestManyTables(t *testing.T) {
	r := rand.New(rand.NewSource(12))
	ends := map[int]int{}
	for range 3000 {
		words := make([]uint64, 8*512)
		for i := range words {
			words[i] = wildWord(r)
		}
		holes := r.Intn(20)
		read := func(at uint64) (uint64, bool) {
			if at/8 >= uint64(len(words)) || holes > 0 && at/8%uint64(holes+20) == 0 {
				return at, false
			}
			return words[at/8], true
		}
		for range 8 {
			stage, root, addr := 1+r.Intn(2), uint64(r.Intn(9))<<12, r.Uint64()
			want, wantKind := model(stage, root, addr, read)
			var places []uint64
			l, kind := walk.Walk(stage, root, addr, asked(read, &places))
			if !slices.Equal(l, want) || kind != wantKind {
				t.Fatalf("12.1: Walk(%d, %#x, %#x): %+v, %d, not %+v, %d", stage, root, addr, l, kind, want, wantKind)
			}
			if len(places) > 4 {
				t.Fatalf("12.3: %d entries were read", len(places))
			}
			ends[kind]++
		}
	}
	for _, kind := range []int{stopped, api.NoFault, api.Translation, api.Size, api.Form} {
		if ends[kind] < 20 {
			t.Errorf("only %d walks ended with %d", ends[kind], kind)
		}
	}
}

// TestTableWithinItself is the chapter's example: the entry 0 of a table points at the table.
func TestTableWithinItself(t *testing.T) {
	for stage := 1; stage <= 2; stage++ {
		for _, root := range []uint64{0, 0x5000, 1<<32 - 4096} {
			for _, addr := range []uint64{0, 0x123, 1 << 48, 0xFFF | 0xABCD<<48} {
				word := root | 3
				var places []uint64
				l, kind := walk.Walk(stage, root, addr, asked(memory{root: word}.read, &places))
				want := []walk.Step{
					{Level: 0, At: root, Raw: word, Desc: api.Desc{Kind: api.Table, Addr: root}},
					{Level: 1, At: root, Raw: word, Desc: api.Desc{Kind: api.Table, Addr: root}},
					{Level: 2, At: root, Raw: word, Desc: api.Desc{Kind: api.Table, Addr: root}},
					{Level: 3, At: root, Raw: word, Desc: api.Desc{Kind: api.Page, Addr: root}},
				}
				if !slices.Equal(l, want) || kind != api.NoFault {
					t.Errorf("12.3: stage %d, root %#x: %+v, %d", stage, root, l, kind)
				}
				if len(places) != 4 {
					t.Errorf("12.3: stage %d, root %#x: %d entries were read", stage, root, len(places))
				}
			}
		}
	}
}

// TestTableWithinItselfThatMayBeRead: R set makes the word no Table, and leaves one at the level 3 a Page.
func TestTableWithinItselfThatMayBeRead(t *testing.T) {
	l, kind := walk.Walk(1, 0, 0, memory{0: 0x43}.read)
	if want := []walk.Step{{Raw: 0x43}}; !slices.Equal(l, want) || kind != api.Form {
		t.Errorf("12.3: R at the level 0: %+v, %d", l, kind)
	}
	l, kind = walk.Walk(1, 0, 4<<12, memory{0: 3, 32: 0x43}.read)
	want := walk.Step{Level: 3, At: 32, Raw: 0x43, Desc: api.Desc{Kind: api.Page, Perm: api.Perm{R: true}}}
	if len(l) != 4 || l[3] != want || kind != api.NoFault {
		t.Errorf("12.3: R at the level 3: %+v, %d", l, kind)
	}
}

// TestLoopOfTables: tables that lead to each other are left behind four entries, however the way closes.
func TestLoopOfTables(t *testing.T) {
	for n := uint64(1); n <= 6; n++ {
		var places []uint64
		l, kind := walk.Walk(2, 0, ^uint64(0), asked(func(at uint64) (uint64, bool) {
			return (at>>12+1)%n<<12 | 3, true
		}, &places))
		if len(l) != 4 || len(places) != 4 || kind != api.NoFault {
			t.Errorf("12.3: a loop of %d: %d steps, %d reads, %d", n, len(l), len(places), kind)
		}
	}
}

func TestReadThatWalks(t *testing.T) {
	inner := 0
	l, kind := walk.Walk(1, 0x1000, way, func(at uint64) (uint64, bool) {
		if steps, k := walk.Walk(2, 0x1000, way, wayMemory().read); slices.Equal(steps, waySteps()) && k == api.NoFault {
			inner++
		}
		return wayMemory().read(at)
	})
	if !slices.Equal(l, waySteps()) || kind != api.NoFault || inner != 4 {
		t.Errorf("12.1: a walk within a walk: %+v, %d, %d inner ones", l, kind, inner)
	}
}

func TestStepsAreNew(t *testing.T) {
	a, _ := walk.Walk(1, 0x1000, way, wayMemory().read)
	b, _ := walk.Walk(1, 0x1000, way, wayMemory().read)
	a = a[:cap(a)]
	for i := range a {
		a[i] = walk.Step{Level: 77}
	}
	if c, _ := walk.Walk(1, 0x1000, way, wayMemory().read); !slices.Equal(b, waySteps()) || !slices.Equal(c, waySteps()) {
		t.Error("12.1: two answers share memory")
	}
}

// offset is addr's lowest n bits, taken bit by bit.
func offset(addr uint64, n int) uint64 {
	var sum uint64
	for bit := range n {
		sum += addr & (1 << bit)
	}
	return sum
}

func outAddrs() []uint64 {
	l := []uint64{0, 1, 5, 4095, 4096, 0x345678, 1<<64 - 1, 1<<64 - 4096}
	for _, at := range []int{12, 20, 21, 29, 30, 31, 32, 38, 39, 40, 47, 48, 63} {
		p := uint64(1) << at
		l = append(l, p, p-1, p+1, p|0x555, p-4096)
	}
	return l
}

// TestOut: of each kind and level, with addresses that a table could not hold, too.
func TestOut(t *testing.T) {
	for _, kind := range []int{api.Block, api.Page} {
		for _, to := range outAddrs() {
			for _, addr := range outAddrs() {
				for level, shift := range shifts {
					s := walk.Step{Level: level, At: 0x77, Raw: 0x99, Desc: api.Desc{Kind: kind, Addr: to, Soft: 3}}
					if got, want := walk.Out(addr, s), to+offset(addr, shift); got != want {
						t.Fatalf("12.2: Out(%#x, %+v): %#x, not %#x", addr, s, got, want)
					}
				}
				for _, level := range noLevels {
					s := walk.Step{Level: level, Desc: api.Desc{Kind: kind, Addr: to}}
					if got := walk.Out(addr, s); got != to {
						t.Fatalf("12.2: Out(%#x, %+v): %#x, not %#x", addr, s, got, to)
					}
				}
			}
		}
	}
}

func TestOutExamples(t *testing.T) {
	for i, c := range []struct {
		addr uint64
		s    walk.Step
		want uint64
	}{
		{0x5008, walk.Step{Level: 3, Desc: api.Desc{Kind: api.Page, Addr: 0x9000}}, 0x9008},
		{1<<40 | 0x345678, walk.Step{Level: 2, Desc: api.Desc{Kind: api.Block, Addr: 0x200000}}, 0x345678},
		{0x7FFFFFFF, walk.Step{Level: 1, Desc: api.Desc{Kind: api.Block, Addr: 1 << 30}}, 0x7FFFFFFF},
		{0x7FFFFFFF, walk.Step{Level: 1, Desc: api.Desc{Kind: api.Block, Addr: 1}}, 1 << 30},
		{0x123, walk.Step{Level: 3, Desc: api.Desc{Kind: api.Page, Addr: 1<<64 - 0x100}}, 0x23},
		{0x123, walk.Step{Level: 4, Desc: api.Desc{Kind: api.Page, Addr: 1<<64 - 0x100}}, 1<<64 - 0x100},
	} {
		if got := walk.Out(c.addr, c.s); got != c.want {
			t.Errorf("12.2: row %d: %#x, not %#x", i, got, c.want)
		}
	}
}

func TestOutOfAnotherKind(t *testing.T) {
	for _, kind := range []int{math.MinInt, -1 << 32, -3, -1, api.None, api.Table, 4, 1<<8 + 3, 1<<32 + 2, 1<<32 + 3, math.MaxInt} {
		for level := -1; level <= 4; level++ {
			s := walk.Step{Level: level, At: 8, Raw: 0x90C3, Desc: api.Desc{Kind: kind, Addr: 0x9000, Perm: api.Perm{R: true}}}
			if got := walk.Out(0x123, s); got != 0 {
				t.Errorf("12.2: Out(0x123, %+v): %#x", s, got)
			}
		}
	}
	if got := walk.Out(math.MaxUint64, walk.Step{}); got != 0 {
		t.Errorf("12.2: Out of no step: %#x", got)
	}
}
