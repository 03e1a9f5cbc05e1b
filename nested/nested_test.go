package nested_test

import (
	"bytes"
	"math"
	"testing"

	"demesne/api"
	"demesne/nested"
	"demesne/phys"
)

const memFrames = 64

// noAccesses are no kind of access, those beside the three among them and those whose low bits are one of the three.
var noAccesses = []int{math.MinInt, math.MinInt + 2, -1<<32 + 1, -2, -1, 0, 4, 9, 1<<8 + 1, 1<<32 + 2, math.MaxInt}

func accesses() []int { return append([]int{api.Load, api.Store, api.Fetch}, noAccesses...) }

var (
	r   = api.Perm{R: true}
	rw  = api.Perm{R: true, W: true}
	rx  = api.Perm{R: true, X: true}
	rwx = api.Perm{R: true, W: true, X: true}
	x   = api.Perm{X: true}
)

// perms are those that a leaf may have: none with W alone.
var perms = []api.Perm{{}, r, x, rw, rx, rwx}

// pageWord is a Page's word; without permissions it is a Table's, too, at the levels above.
func pageWord(addr uint64, p api.Perm) uint64 {
	w := addr | 3
	for bit, on := range []bool{p.R, p.W, p.X} {
		if on {
			w |= 1 << (6 + bit)
		}
	}
	return w
}

func blockWord(addr uint64, p api.Perm) uint64 { return pageWord(addr, p) &^ 2 }

// The second stage's tables, a level each, from its root on: the pages 0 to 511 are entries of the last one.
var twoTables = [4]uint64{0x1_0000, 0x1_1000, 0x1_2000, 0x1_3000}

// machine is a memory with these tables.
type machine struct{ *phys.Mem }

func newMachine(t *testing.T) machine {
	t.Helper()
	m, e := phys.New(memFrames)
	if e != api.OK {
		t.Fatal(e)
	}
	k := machine{m}
	for level := range 3 {
		k.put(twoTables[level], pageWord(twoTables[level+1], api.Perm{}))
	}
	return k
}

func (k machine) put(at, w uint64) {
	if e := k.Write(at, 8, w); e != api.OK {
		panic(e)
	}
}

// mapPage is the word of the page in the second stage's last table.
func (k machine) mapPage(page uint64, w uint64) { k.put(twoTables[3]+8*page, w) }

// second is Second, and whether the words that it tells were read, no more.
func (k machine) second(t *testing.T, two, ipa uint64, access int) (nested.Out, api.Fault, int) {
	t.Helper()
	before := k.Ops()
	o, f, n := nested.Second(k.Mem, two, ipa, access)
	if k.Ops()-before != n {
		t.Errorf("14.1: Second(%#x, %#x, %d): %d words were read, not %d", two, ipa, access, k.Ops()-before, n)
	}
	return o, f, n
}

// walk is Walk, and whether the words that it tells were read, no more.
func (k machine) walk(t *testing.T, v nested.View, va uint64, access int) (nested.Out, api.Fault, int) {
	t.Helper()
	before := k.Ops()
	o, f, n := nested.Walk(k.Mem, v, va, access)
	if k.Ops()-before != n {
		t.Errorf("14.2: Walk(%+v, %#x, %d): %d words were read, not %d", v, va, access, k.Ops()-before, n)
	}
	return o, f, n
}

func (k machine) wantSecond(t *testing.T, two, ipa uint64, access int, o nested.Out, f api.Fault, n int) {
	t.Helper()
	gotO, gotF, gotN := k.second(t, two, ipa, access)
	if gotO != o || gotF != f || gotN != n {
		t.Errorf("14.1: Second(%#x, %#x, %d): %+v, %+v, %d, not %+v, %+v, %d", two, ipa, access, gotO, gotF, gotN, o, f, n)
	}
}

func (k machine) wantWalk(t *testing.T, v nested.View, va uint64, access int, o nested.Out, f api.Fault, n int) {
	t.Helper()
	gotO, gotF, gotN := k.walk(t, v, va, access)
	if gotO != o || gotF != f || gotN != n {
		t.Errorf("14.2: Walk(%+v, %#x, %d): %+v, %+v, %d, not %+v, %+v, %d", v, va, access, gotO, gotF, gotN, o, f, n)
	}
}

func fault(stage, kind, level int, addr uint64, access int) api.Fault {
	return api.Fault{Stage: stage, Kind: kind, Level: level, Addr: addr, Store: access == api.Store}
}

func TestExamples(t *testing.T) {
	k := newMachine(t)
	k.mapPage(5, pageWord(9<<12, rw))
	k.mapPage(6, pageWord(8<<12, r))
	v := nested.View{Two: twoTables[0]}
	k.wantWalk(t, v, 0x5008, api.Load, nested.Out{Frame: 9, IPage: 5, One: rwx, Two: rw}, api.Fault{}, 4)
	k.wantWalk(t, v, 0x6010, api.Store, nested.Out{}, api.Fault{Stage: 2, Kind: api.Permission, Level: -1, Addr: 0x6010, Store: true}, 4)
}

func TestSecondOfNoMemory(t *testing.T) {
	for _, access := range accesses() {
		for _, ipa := range []uint64{0, 5, 0x5008, 1<<40 - 1, 1 << 40, 1<<64 - 1} {
			for _, two := range []uint64{0, 1, 0x1000, 1<<64 - 1} {
				o, f, n := nested.Second(nil, two, ipa, access)
				if o != (nested.Out{}) || f != fault(2, api.Form, -1, ipa, access) || n != 0 {
					t.Errorf("14.1: Second(nil, %#x, %#x, %d): %+v, %+v, %d", two, ipa, access, o, f, n)
				}
			}
		}
	}
}

// TestSecondBeyond: an address of 2^40 or more is Size ahead of all that its tables say, which are not read.
func TestSecondBeyond(t *testing.T) {
	k := newMachine(t)
	for _, access := range accesses() {
		for _, two := range []uint64{twoTables[0], twoTables[0] + 1, memFrames << 12, 1<<64 - 8} {
			for _, ipa := range []uint64{1 << 40, 1<<40 + 1, 1<<40 + 4096, 1<<41 - 1, 1<<48 - 1, 1 << 48, 1<<63 + 0x5000, 1<<64 - 1} {
				k.wantSecond(t, two, ipa, access, nested.Out{}, fault(2, api.Size, -1, ipa, access), 0)
			}
		}
	}
}

// TestSecondJustBelow: the last address of all is looked up as any other.
func TestSecondJustBelow(t *testing.T) {
	k := newMachine(t)
	k.put(twoTables[0]+8, pageWord(0x2_0000, api.Perm{}))
	k.put(0x2_0000+8*511, pageWord(0x2_1000, api.Perm{}))
	k.put(0x2_1000+8*511, pageWord(0x2_2000, api.Perm{}))
	k.put(0x2_2000+8*511, pageWord(0x7000, rx))
	k.wantSecond(t, twoTables[0], 1<<40-1, api.Fetch, nested.Out{Frame: 7, IPage: 1<<28 - 1, One: rwx, Two: rx}, api.Fault{}, 4)
	k.wantSecond(t, twoTables[0], 1<<40-4097, api.Store, nested.Out{}, fault(2, api.Translation, -1, 1<<40-4097, api.Store), 4)
}

// badWords are words of the level that lead nowhere, with the kind of each; beyond is the least address that the stage hasn't.
func badWords(level int, beyond uint64) map[uint64]int {
	l := map[uint64]int{
		0:                                 api.Translation,
		1<<64 - 2:                         api.Translation,
		pageWord(beyond, api.Perm{}):      api.Size,
		pageWord(1<<47, api.Perm{}):       api.Size,
		pageWord(beyond+4096, api.Perm{}): api.Size,
		pageWord(0, api.Perm{}) | 4:       api.Form,
		pageWord(0, api.Perm{}) | 1<<63:   api.Form,
		pageWord(0, api.Perm{W: true}):    api.Form,
		1<<64 - 1:                         api.Form,
	}
	switch level {
	case 0, 3:
		l[blockWord(0, rw)] = api.Form
		l[blockWord(beyond, rw)] = api.Form
	default:
		l[blockWord(4096, rw)] = api.Form
		l[blockWord(beyond, rw)] = api.Size
		l[blockWord(beyond+4096, rw)] = api.Size
	}
	if level < 3 {
		l[pageWord(0x2_0000, r)] = api.Form
	}
	return l
}

// TestSecondKinds: a word of each kind at each level.
func TestSecondKinds(t *testing.T) {
	for level := range 4 {
		for w, kind := range badWords(level, 1<<32) {
			k := newMachine(t)
			k.mapPage(0, pageWord(9<<12, rwx))
			k.put(twoTables[level], w)
			for _, access := range accesses() {
				k.wantSecond(t, twoTables[0], 0x123, access, nested.Out{}, fault(2, kind, -1, 0x123, access), level+1)
			}
		}
	}
}

// TestSecondRefused: a table that the memory doesn't have is Form, and what was read ahead of it counts.
func TestSecondRefused(t *testing.T) {
	for level := range 3 {
		for _, frame := range []uint64{memFrames, memFrames + 1, 1<<20 - 1} {
			k := newMachine(t)
			k.put(twoTables[level], pageWord(frame<<12, api.Perm{}))
			for _, access := range accesses() {
				k.wantSecond(t, twoTables[0], 0x5008, access, nested.Out{}, fault(2, api.Form, -1, 0x5008, access), level+1)
			}
		}
	}
	k := newMachine(t)
	for _, two := range []uint64{memFrames << 12, twoTables[0] + 1, twoTables[0] + 4, 1 << 40, 1 << 63, 1<<64 - 4096, 1<<64 - 1} {
		for _, access := range accesses() {
			k.wantSecond(t, two, 0x5008, access, nested.Out{}, fault(2, api.Form, -1, 0x5008, access), 0)
		}
	}
}

// TestSecondOddRoots: a root is refused by the memory alone, so entries lie wherever it says, round the end too.
func TestSecondOddRoots(t *testing.T) {
	k := newMachine(t)
	k.mapPage(5, pageWord(9<<12, rw))
	k.put(0x3018, pageWord(twoTables[1], api.Perm{}))
	o := nested.Out{Frame: 9, IPage: 5, One: rwx, Two: rw}
	k.wantSecond(t, 0x3018, 0x5FFF, api.Store, o, api.Fault{}, 4)
	k.put(0, pageWord(twoTables[1], api.Perm{}))
	o.IPage |= 1 << 27
	k.wantSecond(t, 1<<64-8, 1<<39|0x5FFF, api.Store, o, api.Fault{}, 4)
}

func TestSecondPermissions(t *testing.T) {
	for _, p := range perms {
		k := newMachine(t)
		k.mapPage(5, pageWord(9<<12, p))
		for _, access := range accesses() {
			want, f := nested.Out{Frame: 9, IPage: 5, One: rwx, Two: p}, api.Fault{}
			if !plainAllows(p, access) {
				want, f = nested.Out{}, fault(2, api.Permission, -1, 0x5008, access)
			}
			k.wantSecond(t, twoTables[0], 0x5008, access, want, f, 4)
		}
	}
}

// TestSecondBlocks: the frame is the address's own in the block, one that the memory doesn't have too.
func TestSecondBlocks(t *testing.T) {
	k := newMachine(t)
	k.put(twoTables[2], blockWord(1<<21, rw))
	k.wantSecond(t, twoTables[0], 0x12_3456, api.Store, nested.Out{Frame: 512 + 0x123, IPage: 0x123, One: rwx, Two: rw}, api.Fault{}, 3)
	k.wantSecond(t, twoTables[0], 0x12_3456, api.Fetch, nested.Out{}, fault(2, api.Permission, -1, 0x12_3456, api.Fetch), 3)
	k.put(twoTables[1]+8, blockWord(3<<30, rx))
	k.wantSecond(t, twoTables[0], 0x7FFF_FFFF, api.Fetch, nested.Out{Frame: 1<<20 - 1, IPage: 0x7_FFFF, One: rwx, Two: rx}, api.Fault{}, 2)
	k.put(twoTables[2], pageWord(twoTables[3], api.Perm{}))
	k.mapPage(5, pageWord(memFrames<<12, r))
	k.wantSecond(t, twoTables[0], 0x5000, api.Load, nested.Out{Frame: memFrames, IPage: 5, One: rwx, Two: r}, api.Fault{}, 4)
}

// The first stage's tables, a level each, as the guest has them, with the frames that they are in, and an address whose way goes through the entries 1, 2, 3, 4 of them.
var (
	oneTables = [4]uint64{0x1000, 0x2000, 0x3000, 0x4000}
	oneFrames = [4]uint64{33, 31, 34, 32}
)

const (
	way      = 1<<39 | 2<<30 | 3<<21 | 4<<12 | 0x10
	dataAddr = 0x5010
)

// entryAt is where the way's entry of the level lies: the guest's address, and the memory's.
func entryAt(level int) (ipa, at uint64) {
	in := uint64(8 * (level + 1))
	return oneTables[level] + in, oneFrames[level]<<12 + in
}

// putOne is the word of the way's entry of the level.
func (k machine) putOne(level int, w uint64) {
	_, at := entryAt(level)
	k.put(at, w)
}

// newGuest is a machine with both stages: the way comes to the page 5, in the frame 35.
func newGuest(t *testing.T) (machine, nested.View) {
	t.Helper()
	k := newMachine(t)
	for level, addr := range oneTables {
		k.mapPage(addr>>12, pageWord(oneFrames[level]<<12, r))
		if level < 3 {
			k.putOne(level, pageWord(oneTables[level+1], api.Perm{}))
		}
	}
	k.putOne(3, pageWord(0x5000, rwx))
	k.mapPage(5, pageWord(35<<12, rwx))
	return k, nested.View{Two: twoTables[0], On: true, Root: oneTables[0]}
}

func TestWholeWay(t *testing.T) {
	k, v := newGuest(t)
	for _, access := range []int{api.Load, api.Store, api.Fetch} {
		k.wantWalk(t, v, way, access, nested.Out{Frame: 35, IPage: 5, One: rwx, Two: rwx}, api.Fault{}, 24)
	}
}

// wantAtOnce: the first stage's fault of the kind, without a word read, and without a memory too.
func (k machine) wantAtOnce(t *testing.T, v nested.View, va uint64, kind int) {
	t.Helper()
	for _, access := range accesses() {
		f := fault(1, kind, -1, va, access)
		k.wantWalk(t, v, va, access, nested.Out{}, f, 0)
		if o, got, n := nested.Walk(nil, v, va, access); o != (nested.Out{}) || got != f || n != 0 {
			t.Errorf("14.2: Walk(nil, %+v, %#x, %d): %+v, %+v, %d", v, va, access, o, got, n)
		}
	}
}

// TestWalkBeyond: an address of 2^48 or more is the first stage's Size ahead of all else, be that on or off.
func TestWalkBeyond(t *testing.T) {
	k, good := newGuest(t)
	for _, v := range []nested.View{good, {Two: good.Two}, {Two: 1, On: true, Root: 8}, {On: true, Root: 1 << 40}, {Two: memFrames << 12}} {
		for _, va := range []uint64{1 << 48, 1<<48 + 1, 1<<48 | way, 1<<63 | way, 1<<64 - 1} {
			k.wantAtOnce(t, v, va, api.Size)
		}
	}
}

// TestWalkJustBelow: the last address of all goes through the last entries.
func TestWalkJustBelow(t *testing.T) {
	k, v := newGuest(t)
	for level := range 4 {
		to := pageWord(0x5000, x)
		if level < 3 {
			to = pageWord(oneTables[level+1], api.Perm{})
		}
		k.put(oneFrames[level]<<12+8*511, to)
	}
	k.wantWalk(t, v, 1<<48-1, api.Fetch, nested.Out{Frame: 35, IPage: 5, One: x, Two: rwx}, api.Fault{}, 24)
	k.wantWalk(t, v, 1<<48-1, api.Load, nested.Out{}, fault(1, api.Permission, 3, 1<<48-1, api.Load), 20)
}

// TestOff: the second stage's answer, whatever root the first one has.
func TestOff(t *testing.T) {
	k, on := newGuest(t)
	for _, root := range []uint64{0, 8, on.Root, 1 << 40, 1<<64 - 1} {
		for _, two := range []uint64{on.Two, 1, memFrames << 12} {
			for _, ipa := range []uint64{0, 0x1000, dataAddr, 0x6000, 1<<40 - 1, 1 << 40, 1<<48 - 1} {
				for _, access := range accesses() {
					o, f, n := k.second(t, two, ipa, access)
					k.wantWalk(t, nested.View{Two: two, Root: root}, ipa, access, o, f, n)
				}
			}
		}
	}
	off := nested.View{Two: on.Two}
	k.wantWalk(t, off, dataAddr, api.Store, nested.Out{Frame: 35, IPage: 5, One: rwx, Two: rwx}, api.Fault{}, 4)
	k.wantWalk(t, off, 1<<40, api.Store, nested.Out{}, fault(2, api.Size, -1, 1<<40, api.Store), 0)
	k.wantWalk(t, off, 1<<48-1, api.Load, nested.Out{}, fault(2, api.Size, -1, 1<<48-1, api.Load), 0)
}

// TestWrongRoots: nothing is read of a first stage whose root may not be.
func TestWrongRoots(t *testing.T) {
	k, v := newGuest(t)
	for _, v.Root = range []uint64{1, 8, 0xFF8, 0x1001, 0x1008, 0x1800, 1<<40 - 8, 1 << 40, 1<<40 + 8, 1<<40 + 0x1000, 1 << 48, 1<<63 + 0x1000, 1<<64 - 4096, 1<<64 - 1} {
		for _, va := range []uint64{0, way, 1<<48 - 1} {
			k.wantAtOnce(t, v, va, api.Form)
		}
	}
}

// TestRootsAtTheEdges: the first and the last root that may be.
func TestRootsAtTheEdges(t *testing.T) {
	k, v := newGuest(t)
	v.Root = 1<<40 - 4096
	k.wantWalk(t, v, way, api.Store, nested.Out{}, fault(2, api.Translation, 0, 1<<40-4096+8, api.Store), 1)
	v.Root = 0
	k.wantWalk(t, v, way, api.Load, nested.Out{}, fault(2, api.Translation, 0, 8, api.Load), 4)
	k.mapPage(0, pageWord(oneFrames[0]<<12, r))
	k.wantWalk(t, v, way, api.Load, nested.Out{Frame: 35, IPage: 5, One: rwx, Two: rwx}, api.Fault{}, 24)
}

func TestWalkOfNoMemory(t *testing.T) {
	for _, access := range accesses() {
		o, f, n := nested.Walk(nil, nested.View{Two: 0x1000}, way, access)
		if o != (nested.Out{}) || f != fault(2, api.Form, -1, way, access) || n != 0 {
			t.Errorf("14.2: off, of nil: %+v, %+v, %d", o, f, n)
		}
		o, f, n = nested.Walk(nil, nested.View{Two: 0x1000, On: true, Root: 0x1000}, way, access)
		if o != (nested.Out{}) || f != fault(2, api.Form, 0, 0x1008, access) || n != 0 {
			t.Errorf("14.2: on, of nil: %+v, %+v, %d", o, f, n)
		}
	}
}

// TestEntriesBehindTheSecondStage: what that says of the page of each of the first stage's tables ends all, told with the level of the table and the access as it is.
func TestEntriesBehindTheSecondStage(t *testing.T) {
	words := badWords(3, 1<<32)
	words[pageWord(40<<12, api.Perm{})] = api.Permission
	words[pageWord(40<<12, x)] = api.Permission
	// A frame that the memory doesn't have is no fault of the second stage's walk: the word in it is refused.
	words[pageWord(memFrames<<12, r)] = api.Form
	words[pageWord((1<<20-1)<<12, rwx)] = api.Form
	for level := range 4 {
		ipa, _ := entryAt(level)
		for w, kind := range words {
			k, v := newGuest(t)
			k.mapPage(oneTables[level]>>12, w)
			for _, access := range accesses() {
				k.wantWalk(t, v, way, access, nested.Out{}, fault(2, kind, level, ipa, access), 5*level+4)
			}
		}
	}
}

// TestEntriesWithoutAWay: the second stage has no way to the page of a table of the first one, or one whose words the memory refuses.
func TestEntriesWithoutAWay(t *testing.T) {
	for level := range 4 {
		k, v := newGuest(t)
		far := uint64(1)<<30 + oneTables[level]
		if level == 0 {
			v.Root = far
		} else {
			k.putOne(level-1, pageWord(far, api.Perm{}))
		}
		ipa := far + uint64(8*(level+1))
		for _, access := range accesses() {
			k.put(twoTables[1]+8, 0)
			k.wantWalk(t, v, way, access, nested.Out{}, fault(2, api.Translation, level, ipa, access), 5*level+2)
			k.put(twoTables[1]+8, pageWord(memFrames<<12, api.Perm{}))
			k.wantWalk(t, v, way, access, nested.Out{}, fault(2, api.Form, level, ipa, access), 5*level+2)
			k.put(twoTables[1]+8, blockWord(1<<30, rwx))
			k.wantWalk(t, v, way, access, nested.Out{}, fault(2, api.Form, level, ipa, access), 5*level+2)
			k.put(twoTables[1]+8, blockWord(1<<30, x))
			k.wantWalk(t, v, way, access, nested.Out{}, fault(2, api.Permission, level, ipa, access), 5*level+2)
			k.put(twoTables[1]+8, blockWord(1<<32, rwx))
			k.wantWalk(t, v, way, access, nested.Out{}, fault(2, api.Size, level, ipa, access), 5*level+2)
		}
		v.Two = memFrames << 12
		ipa = v.Root + 8
		k.wantWalk(t, v, way, api.Store, nested.Out{}, fault(2, api.Form, 0, ipa, api.Store), 0)
	}
}

// TestEntriesNeedLoadAlone: the first stage's tables are read where the second stage lets them be read, whatever the access is.
func TestEntriesNeedLoadAlone(t *testing.T) {
	for _, p := range []api.Perm{r, rw, rx, rwx} {
		k, v := newGuest(t)
		for level, addr := range oneTables {
			k.mapPage(addr>>12, pageWord(oneFrames[level]<<12, p))
		}
		for _, access := range []int{api.Load, api.Store, api.Fetch} {
			k.wantWalk(t, v, way, access, nested.Out{Frame: 35, IPage: 5, One: rwx, Two: rwx}, api.Fault{}, 24)
		}
	}
}

// TestFirstKinds: a word of each kind at each level of the first stage.
func TestFirstKinds(t *testing.T) {
	for level := range 4 {
		for w, kind := range badWords(level, 1<<40) {
			k, v := newGuest(t)
			k.putOne(level, w)
			for _, access := range accesses() {
				k.wantWalk(t, v, way, access, nested.Out{}, fault(1, kind, level, way, access), 5*(level+1))
			}
		}
	}
}

// TestFirstPermissions: of leaves at each level that has them; what the first stage refuses is told ahead of the second one, which isn't asked.
func TestFirstPermissions(t *testing.T) {
	for level := 1; level < 4; level++ {
		for _, one := range perms {
			for _, two := range perms {
				k, v := newGuest(t)
				to := uint64(1) << 30
				w := blockWord(to, one)
				if level == 3 {
					w = pageWord(to, one)
				}
				k.putOne(level, w)
				ipa := to + way%(1<<shifts[level])
				k.put(twoTables[1]+8, blockWord(2<<30, two))
				for _, access := range accesses() {
					o, f, n := nested.Out{Frame: int((ipa + 1<<30) >> 12), IPage: ipa >> 12, One: one, Two: two}, api.Fault{}, 5*(level+1)+2
					switch {
					case !plainAllows(one, access):
						o, f, n = nested.Out{}, fault(1, api.Permission, level, way, access), 5*(level+1)
					case !plainAllows(two, access):
						o, f = nested.Out{}, fault(2, api.Permission, -1, ipa, access)
					}
					k.wantWalk(t, v, way, access, o, f, n)
				}
			}
		}
	}
}

// TestLastOfTheSecondStage: the fault of the page that the first stage leads to is the access's own.
func TestLastOfTheSecondStage(t *testing.T) {
	for w, kind := range badWords(3, 1<<32) {
		k, v := newGuest(t)
		k.mapPage(5, w)
		for _, access := range []int{api.Load, api.Store, api.Fetch} {
			k.wantWalk(t, v, way, access, nested.Out{}, fault(2, kind, -1, dataAddr, access), 24)
		}
	}
	k, v := newGuest(t)
	k.putOne(3, pageWord(1<<40-4096, rwx))
	k.wantWalk(t, v, way, api.Store, nested.Out{}, fault(2, api.Translation, -1, 1<<40-4096+0x10, api.Store), 21)
	k.putOne(1, blockWord(1<<40-1<<30, rwx))
	ipa := uint64(1<<40 - 1<<30 + way%(1<<30))
	k.wantWalk(t, v, way, api.Load, nested.Out{}, fault(2, api.Translation, -1, ipa, api.Load), 11)
	// A frame that the memory doesn't have is told: no word of it is read here.
	k.putOne(1, pageWord(oneTables[2], api.Perm{}))
	k.putOne(3, pageWord(0x5000, rw))
	k.mapPage(5, pageWord(memFrames<<12, rx))
	k.wantWalk(t, v, way, api.Load, nested.Out{Frame: memFrames, IPage: 5, One: rw, Two: rx}, api.Fault{}, 24)
}

// TestTablesAreTheGuests: the first stage's addresses are the guest's: what lies there in the memory is not read, wherever the second stage leads.
func TestTablesAreTheGuests(t *testing.T) {
	k, v := newGuest(t)
	for level, addr := range oneTables {
		in := addr + uint64(8*(level+1))
		to := pageWord(0x6000, rwx)
		if level < 3 {
			to = pageWord(oneTables[level+1], api.Perm{})
		}
		k.put(in, to)
	}
	k.mapPage(6, pageWord(36<<12, rwx))
	o := nested.Out{Frame: 35, IPage: 5, One: rwx, Two: rwx}
	k.wantWalk(t, v, way, api.Load, o, api.Fault{}, 24)
	for level := range 4 {
		k, v := newGuest(t)
		ipa, _ := entryAt(level)
		k.put(ipa, pageWord(0x6000, rwx))
		k.mapPage(oneTables[level]>>12, 0)
		k.wantWalk(t, v, way, api.Load, nested.Out{}, fault(2, api.Translation, level, ipa, api.Load), 5*level+4)
	}
}

// TestTableWithinItself: a loop is left behind four entries, each of them read anew.
func TestTableWithinItself(t *testing.T) {
	k, v := newGuest(t)
	k.put(oneFrames[0]<<12, pageWord(oneTables[0], api.Perm{}))
	k.wantWalk(t, v, 0x10, api.Load, nested.Out{}, fault(1, api.Permission, 3, 0x10, api.Load), 20)
	k.put(oneFrames[0]<<12+8, pageWord(oneTables[0], rw))
	k.mapPage(oneTables[0]>>12, pageWord(oneFrames[0]<<12, rw))
	// The entry 0 of each of the upper levels, and the entry 1 of the last one: the table is a page of its own guest.
	k.wantWalk(t, v, 0x1010, api.Store, nested.Out{Frame: int(oneFrames[0]), IPage: 1, One: rw, Two: rw}, api.Fault{}, 24)
	k.put(twoTables[0], pageWord(twoTables[0], api.Perm{}))
	k.wantSecond(t, twoTables[0], 0, api.Load, nested.Out{}, fault(2, api.Permission, -1, 0, api.Load), 4)
	k.wantWalk(t, v, 0, api.Load, nested.Out{}, fault(2, api.Translation, 0, 0x1000, api.Load), 4)
}

// TestNothingIsWritten: the memory's bytes are as they were behind any walk.
func TestNothingIsWritten(t *testing.T) {
	k, v := newGuest(t)
	before := k.bytes()
	for _, access := range accesses() {
		for _, va := range []uint64{way, way + 4096, 0, 1 << 48} {
			k.walk(t, v, va, access)
			k.second(t, v.Two, va, access)
		}
	}
	if !bytes.Equal(before, k.bytes()) {
		t.Error("14.2: a walk wrote into the memory")
	}
}

func (k machine) bytes() []byte {
	var l []byte
	for frame := range memFrames {
		page, _ := k.Get(frame)
		l = append(l, page...)
	}
	return l
}

// TestWalksAgain: what a walk tells is the tables' as they are, nothing that was read earlier.
func TestWalksAgain(t *testing.T) {
	k, v := newGuest(t)
	o := nested.Out{Frame: 35, IPage: 5, One: rwx, Two: rwx}
	k.wantWalk(t, v, way, api.Store, o, api.Fault{}, 24)
	k.mapPage(5, pageWord(36<<12, rw))
	o.Frame, o.Two = 36, rw
	k.wantWalk(t, v, way, api.Store, o, api.Fault{}, 24)
	k.putOne(3, pageWord(0x5000, r))
	o.One = r
	k.wantWalk(t, v, way, api.Load, o, api.Fault{}, 24)
	k.wantWalk(t, v, way, api.Store, nested.Out{}, fault(1, api.Permission, 3, way, api.Store), 20)
}
