package nested_test

import (
	"encoding/binary"
	"math/rand"
	"testing"

	"demesne/api"
	"demesne/nested"
	"demesne/phys"
)

// plain is a memory as the chapter asks of it: words by their places, and how many were read.
type plain struct {
	words []uint64
	reads int
}

func (p *plain) read(at uint64) (uint64, bool) {
	if at%8 != 0 || at/8 >= uint64(len(p.words)) {
		return 0, false
	}
	p.reads++
	return p.words[at/8], true
}

// shifts are the lowest bits of a level's index.
var shifts = [4]int{39, 30, 21, 12}

// noBits are those of a word that say nothing and must be 0: 2 to 5, 9 to 11, 48 to 54, 59 to 63.
const noBits = 0xF<<2 | 7<<9 | 0x7F<<48 | 0x1F<<59

// leaf is what a way comes to: the level of its last entry, how it ends (-1: the last entry was refused), and, at a good end, the address and what is allowed.
type leaf struct {
	level, kind int
	to          uint64
	perm        api.Perm
}

// plainWay goes a table's way with bits alone.
func plainWay(top, root, addr uint64, read func(level int, at uint64) (uint64, bool)) leaf {
	for level := range 4 {
		w, ok := read(level, root+addr>>shifts[level]%512*8)
		if !ok {
			return leaf{level: level, kind: -1}
		}
		to := w & (1<<48 - 4096)
		p := api.Perm{R: w>>6&1 == 1, W: w>>7&1 == 1, X: w>>8&1 == 1}
		table := w&2 != 0 && level < 3
		page := w&2 != 0 && level == 3
		block := w&2 == 0 && (level == 1 || level == 2)
		span := uint64(1) << shifts[level]
		switch {
		case w&1 == 0:
			return leaf{level: level, kind: api.Translation}
		case w&noBits != 0:
			return leaf{level: level, kind: api.Form}
		case !table && !page && !block || table && p != (api.Perm{}) || p.W && !p.R:
			return leaf{level: level, kind: api.Form}
		case to >= top:
			return leaf{level: level, kind: api.Size}
		case block && to%span != 0:
			return leaf{level: level, kind: api.Form}
		case !table:
			return leaf{level, api.NoFault, to + addr%span, p}
		}
		root = to
	}
	panic("a table at the level 3")
}

func plainAllows(p api.Perm, access int) bool {
	return access == api.Load && p.R || access == api.Store && p.W || access == api.Fetch && p.X
}

func plainSecond(p *plain, two, ipa uint64, access int) (nested.Out, api.Fault) {
	f := api.Fault{Stage: 2, Level: -1, Addr: ipa, Store: access == api.Store}
	if ipa >= 1<<40 {
		f.Kind = api.Size
		return nested.Out{}, f
	}
	l := plainWay(1<<32, two, ipa, func(_ int, at uint64) (uint64, bool) { return p.read(at) })
	switch {
	case l.kind == -1:
		f.Kind = api.Form
	case l.kind != api.NoFault:
		f.Kind = l.kind
	case !plainAllows(l.perm, access):
		f.Kind = api.Permission
	default:
		return nested.Out{Frame: int(l.to >> 12), IPage: ipa >> 12, One: api.Perm{R: true, W: true, X: true}, Two: l.perm}, api.Fault{}
	}
	return nested.Out{}, f
}

func plainWalk(p *plain, v nested.View, va uint64, access int) (nested.Out, api.Fault) {
	f := api.Fault{Stage: 1, Level: -1, Addr: va, Store: access == api.Store}
	switch {
	case va >= 1<<48:
		f.Kind = api.Size
		return nested.Out{}, f
	case !v.On:
		return plainSecond(p, v.Two, va, access)
	case v.Root%4096 != 0 || v.Root >= 1<<40:
		f.Kind = api.Form
		return nested.Out{}, f
	}
	var through api.Fault
	l := plainWay(1<<40, v.Root, va, func(level int, at uint64) (uint64, bool) {
		o, g := plainSecond(p, v.Two, at, api.Load)
		if g == (api.Fault{}) {
			w, ok := p.read(uint64(o.Frame)<<12 | at%4096)
			if ok {
				return w, true
			}
			g = api.Fault{Stage: 2, Kind: api.Form, Addr: at}
		}
		g.Level, g.Store = level, f.Store
		through = g
		return 0, false
	})
	switch {
	case l.kind == -1:
		return nested.Out{}, through
	case l.kind != api.NoFault:
		f.Kind, f.Level = l.kind, l.level
		return nested.Out{}, f
	case !plainAllows(l.perm, access):
		f.Kind, f.Level = api.Permission, l.level
		return nested.Out{}, f
	}
	o, g := plainSecond(p, v.Two, l.to, access)
	if g == (api.Fault{}) {
		o.One = l.perm
	}
	return o, g
}

// A wild memory: the second stage's tables in the frames 0 to 3, three frames for the first stage's tables of each level behind them, most words leading a level on, and some saying anything.
const (
	wildFrames = 16
	wildRuns   = 900
)

// wildPage is a page that the second stage leads, most often, to a frame of the first stage's level.
func wildPage(r *rand.Rand, level int) uint64 { return uint64(12*r.Intn(42) + 3*level + r.Intn(3)) }

func wildPerm(r *rand.Rand) uint64 { return []uint64{1, 1, 3, 3, 7, 7, 7, 5, 4, 0}[r.Intn(10)] << 6 }

// noise makes the word another one now and then.
func noise(r *rand.Rand, w uint64) uint64 {
	switch r.Intn(60) {
	case 0:
		return 0
	case 1:
		return r.Uint64()
	case 2:
		return w ^ 1<<r.Intn(64)
	case 3:
		return w | 1<<(32+r.Intn(16))
	case 4:
		return uint64(r.Intn(4))<<30 | wildPerm(r) | 1
	case 5:
		return uint64(r.Intn(4))<<21 | wildPerm(r) | 1
	case 6:
		return w | 1<<20
	case 7:
		return w | uint64(r.Intn(16))<<55
	}
	return w
}

func wildWord(r *rand.Rand, frame, i int) uint64 {
	switch {
	case frame < 3:
		return noise(r, uint64(frame+1)<<12|3)
	case frame == 3:
		w := uint64(4+i%12)<<12 | wildPerm(r) | 3
		if r.Intn(4) != 0 {
			w |= 1 << 6
		}
		return noise(r, w)
	case frame < 13:
		return noise(r, wildPage(r, (frame-4)/3+1)<<12|3)
	}
	return noise(r, uint64(r.Intn(512))<<12|wildPerm(r)|3)
}

func wildMemory(t *testing.T, r *rand.Rand) (*phys.Mem, *plain) {
	t.Helper()
	p := &plain{words: make([]uint64, wildFrames*512)}
	m, e := phys.New(wildFrames)
	if e != api.OK {
		t.Fatal(e)
	}
	for frame := range wildFrames {
		var page []byte
		for i := range 512 {
			w := wildWord(r, frame, i)
			p.words[frame*512+i] = w
			page = binary.LittleEndian.AppendUint64(page, w)
		}
		m.Set(frame, page)
	}
	return m, p
}

// wildAddr is an address below top, most often, in which most bits of the upper levels may be left out.
func wildAddr(r *rand.Rand, top uint64) uint64 {
	switch r.Intn(20) {
	case 0:
		return r.Uint64()
	case 1:
		return top - 2 + uint64(r.Intn(4))
	case 2, 3:
		return r.Uint64() % (1 << 21)
	}
	return r.Uint64() % top
}

func wildView(r *rand.Rand) nested.View {
	v := nested.View{On: r.Intn(8) != 0, Root: wildPage(r, 0) << 12}
	switch r.Intn(40) {
	case 0:
		v.Two = uint64(r.Intn(17)) << 12
	case 1:
		v.Two = uint64(r.Intn(64))
	case 2:
		v.Two = -uint64(r.Intn(4096))
	case 3:
		v.Root = r.Uint64()
	case 4:
		v.Root += 8
	case 5:
		v.Root = 1<<40 - 4096 + uint64(r.Intn(2))<<12
	}
	return v
}

// TestManyTables holds both calls, over tables that say anything, against the plain ones.
func TestManyTables(t *testing.T) {
	r := rand.New(rand.NewSource(14))
	seen := map[[3]int]int{}
	for range wildRuns {
		m, p := wildMemory(t, r)
		for range 40 {
			v, access := wildView(r), 1+r.Intn(3)
			if r.Intn(20) == 0 {
				access = r.Intn(9) - 4
			}
			va, ipa := wildAddr(r, 1<<48), wildAddr(r, 1<<40)
			p.reads = 0
			want, wantFault := plainWalk(p, v, va, access)
			o, f, n := nested.Walk(m, v, va, access)
			if o != want || f != wantFault || n != p.reads {
				t.Fatalf("14.2: Walk(%+v, %#x, %d): %+v, %+v, %d, not %+v, %+v, %d", v, va, access, o, f, n, want, wantFault, p.reads)
			}
			if n > 24 {
				t.Fatalf("14.3: Walk(%+v, %#x, %d): %d words were read", v, va, access, n)
			}
			seen[[3]int{f.Stage, f.Kind, f.Level}]++
			p.reads = 0
			want, wantFault = plainSecond(p, v.Two, ipa, access)
			o, f, n = nested.Second(m, v.Two, ipa, access)
			if o != want || f != wantFault || n != p.reads {
				t.Fatalf("14.1: Second(%#x, %#x, %d): %+v, %+v, %d, not %+v, %+v, %d", v.Two, ipa, access, o, f, n, want, wantFault, p.reads)
			}
		}
	}
	for _, k := range endings() {
		if seen[k] < 10 {
			t.Errorf("only %d walks ended with %v (stage, kind, level)", seen[k], k)
		}
	}
}

// endings are all that a walk may end with: stage, kind and level.
func endings() [][3]int {
	l := [][3]int{{}, {1, api.Size, -1}, {1, api.Form, -1}}
	for level := range 4 {
		for _, kind := range []int{api.Translation, api.Size, api.Form} {
			l = append(l, [3]int{1, kind, level})
		}
		if level > 0 {
			l = append(l, [3]int{1, api.Permission, level})
		}
	}
	for level := -1; level < 4; level++ {
		for _, kind := range []int{api.Translation, api.Permission, api.Size, api.Form} {
			l = append(l, [3]int{2, kind, level})
		}
	}
	return l
}
