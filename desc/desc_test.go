package desc_test

import (
	"math"
	"math/rand"
	"testing"

	"demesne/api"
	"demesne/desc"
)

var oddInts = []int{math.MinInt, math.MinInt + 1, -1 << 32, -4, -3, -2, -1, 4, 5, 16, 17, 1<<32 + 1, 1<<32 + 2, math.MaxInt - 1, math.MaxInt}

// perms are all eight.
func perms() []api.Perm {
	var l []api.Perm
	for i := range 8 {
		l = append(l, api.Perm{R: i&1 != 0, W: i&2 != 0, X: i&4 != 0})
	}
	return l
}

// addrs are addresses at the edges that the chapter names, and those beside them.
func addrs() []uint64 {
	l := []uint64{0, 1, 4095, 4096, 4097, 0x3000, 0x3008, 1<<64 - 1, 1<<64 - 4096}
	for _, at := range []int{13, 20, 21, 22, 29, 30, 31, 32, 33, 38, 39, 40, 41, 47, 48, 63} {
		p := uint64(1) << at
		l = append(l, p, p-1, p+1, p-4096, p+4096, p-1<<21, p+1<<21, p+1<<30)
	}
	return l
}

// kinds of a place: what the chapter lets stand in tables of a level.
var kindsOfLevel = [4][]int{{api.None, api.Table}, {api.None, api.Table, api.Block}, {api.None, api.Table, api.Block}, {api.None, api.Page}}

var topOfStage = map[int]uint64{1: 1 << 40, 2: 1 << 32}

func among(l []int, v int) bool {
	for _, x := range l {
		if x == v {
			return true
		}
	}
	return false
}

// refusal is what the chapter refuses d with, said in its order.
func refusal(stage, level int, d api.Desc) api.Errno {
	if topOfStage[stage] == 0 || level < 0 || level > 3 {
		return api.ErrArg
	}
	if !among([]int{0, 1, 2, 3}, d.Kind) || d.Soft < 0 || d.Soft > 15 {
		return api.ErrArg
	}
	if !among(kindsOfLevel[level], d.Kind) {
		return api.ErrForm
	}
	some := d.Perm.R || d.Perm.W || d.Perm.X
	if some && (d.Kind == api.None || d.Kind == api.Table) || d.Perm.W && !d.Perm.R {
		return api.ErrForm
	}
	if d.Kind == api.None && (d.Addr != 0 || d.Soft != 0) {
		return api.ErrForm
	}
	if d.Addr >= topOfStage[stage] {
		return api.ErrRange
	}
	low := uint64(1) << 12
	if d.Kind == api.Block {
		low = map[int]uint64{1: 1 << 30, 2: 1 << 21}[level]
	}
	if d.Addr&(low-1) != 0 {
		return api.ErrAlign
	}
	return api.OK
}

// word is the word of a descriptor that is not refused.
func word(d api.Desc) uint64 {
	if d.Kind == api.None {
		return 0
	}
	w := 1 | d.Addr | uint64(d.Soft)<<55
	for bit, on := range map[int]bool{1: d.Kind == api.Table || d.Kind == api.Page, 6: d.Perm.R, 7: d.Perm.W, 8: d.Perm.X} {
		if on {
			w |= 1 << bit
		}
	}
	return w
}

// find looks through all descriptors with the address for one whose word is w.
func find(stage, level int, addr, w uint64) (api.Desc, bool) {
	for _, kind := range kindsOfLevel[level] {
		for _, p := range perms() {
			for soft := range 16 {
				d := api.Desc{Kind: kind, Addr: addr, Perm: p, Soft: soft}
				if refusal(stage, level, d) == api.OK && word(d) == w {
					return d, true
				}
			}
		}
	}
	return api.Desc{}, false
}

const addrMask = (1<<48 - 1) &^ (1<<12 - 1)

// decoded is what the chapter says of w.
func decoded(stage, level int, w uint64) (api.Desc, api.Errno) {
	if topOfStage[stage] == 0 || level < 0 || level > 3 {
		return api.Desc{}, api.ErrArg
	}
	if w&1 == 0 {
		return api.Desc{}, api.OK
	}
	if d, ok := find(stage, level, w&addrMask, w); ok {
		return d, api.OK
	}
	if _, ok := find(stage, level, 0, w&^addrMask); ok && w&addrMask >= topOfStage[stage] {
		return api.Desc{}, api.ErrRange
	}
	return api.Desc{}, api.ErrForm
}

// tryDesc holds Check and Encode against the chapter, and Decode against Encode.
func tryDesc(t *testing.T, stage, level int, d api.Desc) {
	t.Helper()
	want := refusal(stage, level, d)
	if e := desc.Check(stage, level, d); e != want {
		t.Fatalf("9.1: Check(%d, %d, %+v): %d, not %d", stage, level, d, e, want)
	}
	w, e := desc.Encode(stage, level, d)
	if want != api.OK {
		if w != 0 || e != want {
			t.Fatalf("9.2: Encode(%d, %d, %+v): %#x, %d, not 0, %d", stage, level, d, w, e, want)
		}
		return
	}
	if w != word(d) || e != api.OK {
		t.Fatalf("9.2: Encode(%d, %d, %+v): %#x, %d, not %#x", stage, level, d, w, e, word(d))
	}
	if back, e := desc.Decode(stage, level, w); back != d || e != api.OK {
		t.Fatalf("9.4: Decode(%d, %d, %#x): %+v, %d, not %+v", stage, level, w, back, e, d)
	}
}

func tryWord(t *testing.T, stage, level int, w uint64) {
	t.Helper()
	want, wantE := decoded(stage, level, w)
	if d, e := desc.Decode(stage, level, w); d != want || e != wantE {
		t.Fatalf("9.3: Decode(%d, %d, %#x): %+v, %d, not %+v, %d", stage, level, w, d, e, want, wantE)
	}
}

func TestExamples(t *testing.T) {
	page := api.Desc{Kind: api.Page, Addr: 0x3000, Perm: api.Perm{R: true, W: true}}
	for stage := 1; stage <= 2; stage++ {
		if w, e := desc.Encode(stage, 3, page); w != 0x30C3 || e != api.OK {
			t.Errorf("9.2: {Page, 0x3000, RW} at the level 3: %#x, %d", w, e)
		}
		for level := range 3 {
			if w, e := desc.Encode(stage, level, api.Desc{Kind: api.Table, Addr: 0x3000}); w != 0x3003 || e != api.OK {
				t.Errorf("9.2: {Table, 0x3000} at the level %d: %#x, %d", level, w, e)
			}
		}
		for level := 2; level <= 3; level++ {
			if d, e := desc.Decode(stage, level, 0x3001); d != (api.Desc{}) || e != api.ErrForm {
				t.Errorf("9.3: 0x3001 at the level %d: %+v, %d", level, d, e)
			}
		}
	}
}

func TestTop(t *testing.T) {
	for _, stage := range append([]int{0, 1, 2, 3}, oddInts...) {
		if top := desc.Top(stage); top != topOfStage[stage] {
			t.Errorf("9: Top(%d): %#x", stage, top)
		}
	}
}

func TestEveryDesc(t *testing.T) {
	for stage := 0; stage <= 3; stage++ {
		for level := -1; level <= 4; level++ {
			for kind := -1; kind <= 4; kind++ {
				for _, p := range perms() {
					for _, soft := range []int{-1, 0, 1, 2, 4, 8, 15, 16} {
						for _, addr := range addrs() {
							tryDesc(t, stage, level, api.Desc{Kind: kind, Addr: addr, Perm: p, Soft: soft})
						}
					}
				}
			}
		}
	}
}

func TestOddInts(t *testing.T) {
	good := api.Desc{Kind: api.Page, Addr: 0x3000}
	tryDesc(t, 1, 3, good)
	for _, odd := range oddInts {
		tryDesc(t, odd, 3, good)
		tryDesc(t, 1, odd, good)
		tryDesc(t, 2, 3, api.Desc{Kind: odd})
		tryDesc(t, 2, 3, api.Desc{Kind: api.Page, Soft: odd})
		tryDesc(t, odd, 3, api.Desc{Addr: 1<<64 - 1, Perm: api.Perm{W: true}})
		for _, w := range []uint64{0, 1, 3, 0x3003, 1<<64 - 1} {
			tryWord(t, odd, 3, w)
			tryWord(t, 1, odd, w)
		}
	}
}

// TestRefusalsInOrder: each of the chapter's refusals, with all the later ones beside it.
func TestRefusalsInOrder(t *testing.T) {
	wrong := api.Desc{Kind: api.Block, Addr: 1<<40 + 1, Perm: api.Perm{W: true}}
	rows := []struct {
		stage, level int
		soft         int
		perm         api.Perm
		addr         uint64
		e            api.Errno
	}{
		{0, 1, 0, wrong.Perm, wrong.Addr, api.ErrArg},
		{1, 4, 0, wrong.Perm, wrong.Addr, api.ErrArg},
		{1, 1, 16, wrong.Perm, wrong.Addr, api.ErrArg},
		{1, 1, 15, wrong.Perm, wrong.Addr, api.ErrForm},
		{1, 1, 15, api.Perm{R: true, W: true}, wrong.Addr, api.ErrRange},
		{1, 1, 15, api.Perm{R: true, W: true}, 1<<40 - 1, api.ErrAlign},
		{1, 1, 15, api.Perm{R: true, W: true}, 1<<40 - 1<<30, api.OK},
	}
	for i, r := range rows {
		d := api.Desc{Kind: api.Block, Addr: r.addr, Perm: r.perm, Soft: r.soft}
		if e := desc.Check(r.stage, r.level, d); e != r.e {
			t.Errorf("9.1: row %d: %d, not %d", i, e, r.e)
		}
	}
}

// TestOneBitMore: the words that are right, and all words that are one or two bits away from one.
func TestOneBitMore(t *testing.T) {
	for stage := 1; stage <= 2; stage++ {
		for level := range 4 {
			for _, kind := range kindsOfLevel[level] {
				for _, p := range perms() {
					d := api.Desc{Kind: kind, Perm: p}
					if refusal(stage, level, d) != api.OK {
						continue
					}
					w := word(d)
					tryWord(t, stage, level, w)
					for i := range 64 {
						for j := range i + 1 {
							tryWord(t, stage, level, w^1<<i^1<<j)
						}
					}
				}
			}
		}
	}
}

func TestManyWords(t *testing.T) {
	r := rand.New(rand.NewSource(9))
	edges := addrs()
	for range 60000 {
		w := edges[r.Intn(len(edges))]&addrMask | uint64(r.Intn(8))<<6 | uint64(r.Intn(4)) | uint64(r.Intn(16))<<55
		switch r.Intn(6) {
		case 0:
			w = r.Uint64()
		case 1:
			w ^= 1 << r.Intn(64)
		}
		tryWord(t, r.Intn(4), r.Intn(6)-1, w)
	}
}

// TestWithoutTheFirstBit: None, whatever else is said.
func TestWithoutTheFirstBit(t *testing.T) {
	r := rand.New(rand.NewSource(93))
	for stage := 1; stage <= 2; stage++ {
		for level := range 4 {
			for range 500 {
				w := r.Uint64() &^ 1
				if d, e := desc.Decode(stage, level, w); d != (api.Desc{}) || e != api.OK {
					t.Fatalf("9.3: Decode(%d, %d, %#x): %+v, %d", stage, level, w, d, e)
				}
			}
		}
	}
}

// TestUnlikeWords: of one table, no two descriptors have one word, and a word has one descriptor at most.
func TestUnlikeWords(t *testing.T) {
	for stage := 1; stage <= 2; stage++ {
		for level := range 4 {
			of := map[uint64]api.Desc{}
			for kind := api.None; kind <= api.Page; kind++ {
				for _, p := range perms() {
					for soft := range 16 {
						for _, addr := range addrs() {
							d := api.Desc{Kind: kind, Addr: addr, Perm: p, Soft: soft}
							w, e := desc.Encode(stage, level, d)
							if e != api.OK {
								continue
							}
							if other, there := of[w]; there && other != d {
								t.Fatalf("9.4: %+v and %+v both have the word %#x", d, other, w)
							}
							of[w] = d
						}
					}
				}
			}
			for w, d := range of {
				if back, e := desc.Decode(stage, level, w); back != d || e != api.OK {
					t.Fatalf("9.4: %+v comes back as %+v, %d", d, back, e)
				}
			}
		}
	}
}
