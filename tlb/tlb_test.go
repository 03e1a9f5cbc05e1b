package tlb_test

import (
	"math"
	"slices"
	"testing"

	"demesne/api"
	"demesne/tlb"
)

// oddInts are ints that are no set, no way and no ID of these tests, those among them whose low bits are.
var oddInts = []int{math.MinInt, math.MinInt + 1, -1 << 32, -1<<32 + 1, -64, -9, -8, -1, 1 << 32, 1<<32 + 1, 1<<32 + 2, math.MaxInt - 1, math.MaxInt}

func made(t *testing.T, sets, ways int) *tlb.TLB {
	t.Helper()
	x, e := tlb.New(sets, ways)
	if e != api.OK || x == nil {
		t.Fatalf("15.1: New(%d, %d): %v, %d", sets, ways, x, e)
	}
	return x
}

// fresh fills lines that find an empty place each.
func fresh(t *testing.T, x *tlb.TLB, lines ...api.Line) {
	t.Helper()
	for _, l := range lines {
		if was, full := x.Fill(l, 0); full || was != (api.Line{}) {
			t.Fatalf("15.2: Fill(%+v): %+v, %v, and a place was empty", l, was, full)
		}
	}
}

func holds(t *testing.T, promise string, x *tlb.TLB, want ...api.Line) {
	t.Helper()
	if got := x.List(); !slices.Equal(got, want) {
		t.Errorf("%s: the lines are %+v, not %+v", promise, got, want)
	}
}

// numbered is a line whose parts beside its name are told apart from those of others by n.
func numbered(id, asid int, vpage uint64, n int) api.Line {
	return api.Line{
		ID: id, ASID: asid, VPage: vpage,
		IPage: uint64(1000 + n), Frame: 2000 + n,
		Perm:   api.Perm{R: n&1 != 0, W: n&2 != 0, X: n&4 != 0},
		Stage2: api.Perm{R: n&2 != 0, W: n&4 != 0, X: n&1 == 0},
	}
}

func TestNew(t *testing.T) {
	for sets := -130; sets <= 260; sets++ {
		for ways := -9; ways <= 18; ways++ {
			may := slices.Contains([]int{1, 2, 4, 8, 16, 32, 64}, sets) && ways >= 1 && ways <= 8
			checkNew(t, sets, ways, may)
		}
	}
	for _, odd := range oddInts {
		checkNew(t, odd, 1, false)
		checkNew(t, 1, odd, false)
		checkNew(t, odd, odd, false)
	}
	for shift := 7; shift < 64; shift++ {
		checkNew(t, 1<<shift, 1, false)
		checkNew(t, 1<<shift+1, 1, false)
	}
}

func checkNew(t *testing.T, sets, ways int, may bool) {
	t.Helper()
	x, e := tlb.New(sets, ways)
	if !may {
		if x != nil || e != api.ErrArg {
			t.Errorf("15.1: New(%d, %d): %v, %d", sets, ways, x, e)
		}
		return
	}
	if x == nil || e != api.OK {
		t.Fatalf("15.1: New(%d, %d): %v, %d", sets, ways, x, e)
	}
	if l := x.List(); len(l) != 0 || x.All() != 0 {
		t.Errorf("15.1: New(%d, %d) holds %+v", sets, ways, l)
	}
}

// TestPlaces: there are sets times ways places, and a line stands in the set VPage modulo sets.
func TestPlaces(t *testing.T) {
	for sets := 1; sets <= api.MaxSets; sets *= 2 {
		for ways := 1; ways <= api.MaxWays; ways++ {
			x := made(t, sets, ways)
			var want []api.Line
			for set := range sets {
				for way := range ways {
					want = append(want, numbered(3, way, uint64(set+sets*way), set+way))
				}
			}
			// From the last set on, so that the order of filling is not that of the sets.
			for set := sets - 1; set >= 0; set-- {
				fresh(t, x, want[set*ways:(set+1)*ways]...)
			}
			holds(t, "15.3", x, want...)
			for set := range sets {
				for way := range ways {
					if !x.Evict(set, way) {
						t.Fatalf("15.1: %d sets of %d ways: nothing at %d, %d", sets, ways, set, way)
					}
					holds(t, "15.2", x, want[set*ways+way+1:]...)
				}
			}
		}
	}
}

func TestGreatPages(t *testing.T) {
	x := made(t, 8, 1)
	pages := []uint64{1 << 63, 1<<32 + 1, 1<<63 + 2, 1<<48 + 3, 1<<36 + 4, 1<<63 - 3, 1<<32 - 2, math.MaxUint64}
	var want []api.Line
	for i, p := range pages {
		want = append(want, numbered(1, 0, p, i))
	}
	for _, l := range slices.Backward(want) {
		fresh(t, x, l)
	}
	holds(t, "15.1", x, want...)
	for _, l := range want {
		if got, ok := x.Find(1, 0, l.VPage); !ok || got != l {
			t.Errorf("15.1: Find of the page %#x: %+v, %v", l.VPage, got, ok)
		}
		if _, ok := x.Find(1, 0, l.VPage%8); ok {
			t.Errorf("15.1: the page %#x is found as %#x", l.VPage, l.VPage%8)
		}
	}
}

// TestFindByName: lines that differ in one of ID, ASID and VPage alone are told apart, whether they are there or asked for.
func TestFindByName(t *testing.T) {
	x := made(t, 2, 8)
	lines := []api.Line{
		numbered(5, 6, 8, 0),
		numbered(7, 6, 8, 1),
		numbered(5, 7, 8, 2),
		numbered(5, 6, 10, 3),
		numbered(6, 5, 8, 4),
		numbered(8, 6, 5, 5), // in the other set
		numbered(5, 6, 9, 6),
	}
	fresh(t, x, lines...)
	for _, l := range lines {
		if got, ok := x.Find(l.ID, l.ASID, l.VPage); !ok || got != l {
			t.Errorf("15.1: Find(%d, %d, %d): %+v, %v", l.ID, l.ASID, l.VPage, got, ok)
		}
	}
	for _, c := range []struct {
		id, asid int
		vpage    uint64
	}{
		{4, 6, 8}, {5, 5, 8}, {5, 6, 12}, {5, 6, 6}, {5, 6, 7}, {7, 7, 8}, {7, 6, 10}, {7, 6, 9}, {8, 6, 7}, {6, 6, 5}, {0, 0, 0}, {-5, 6, 8}, {5, -6, 8},
		{5 + 1<<32, 6, 8}, {5, 6 + 1<<32, 8}, {5, 6, 8 + 1<<32}, {5, 6, 8 + 1<<63}, {5 + 1<<8, 6, 8}, {5, 6 + 1<<8, 8}, {math.MinInt, math.MaxInt, math.MaxUint64},
	} {
		if l, ok := x.Find(c.id, c.asid, c.vpage); ok || l != (api.Line{}) {
			t.Errorf("15.1: Find(%d, %d, %d): %+v, %v", c.id, c.asid, c.vpage, l, ok)
		}
	}
	holds(t, "15.1", x, append(slices.Clone(lines[:5]), lines[5], lines[6])...)
}

// TestAnyNumbers: no line is refused, whatever its numbers, the one that is 0 all over among them.
func TestAnyNumbers(t *testing.T) {
	for _, l := range []api.Line{
		{},
		{Frame: 1},
		{ID: -1, ASID: -1, Frame: -1},
		{ID: math.MinInt, ASID: math.MinInt, Frame: math.MinInt, Perm: api.Perm{W: true}},
		{ID: math.MaxInt, ASID: math.MaxInt, VPage: math.MaxUint64, IPage: math.MaxUint64, Frame: math.MaxInt, Stage2: api.Perm{X: true}},
	} {
		x := made(t, 4, 2)
		if got, ok := x.Find(l.ID, l.ASID, l.VPage); ok || got != (api.Line{}) {
			t.Errorf("15.1: of an empty one: %+v, %v", got, ok)
		}
		fresh(t, x, l)
		if got, ok := x.Find(l.ID, l.ASID, l.VPage); !ok || got != l {
			t.Errorf("15.1: Find of %+v: %+v, %v", l, got, ok)
		}
		holds(t, "15.3", x, l)
		if was, full := x.Fill(l, 1); !full || was != l {
			t.Errorf("15.2: Fill of %+v again: %+v, %v", l, was, full)
		}
		holds(t, "15.2", x, l)
		if x.Frame(l.Frame) != 1 || x.All() != 0 {
			t.Errorf("15.3: %+v is not lost", l)
		}
	}
}

// TestFillThere: a line of the same name takes the old one's place, whatever way is given and whether or not a place is empty.
func TestFillThere(t *testing.T) {
	for _, way := range append([]int{0, 1, 2, 3, 4, 5}, oddInts...) {
		x := made(t, 1, 4)
		a, b, c, d := numbered(1, 0, 3, 0), numbered(1, 1, 3, 1), numbered(2, 0, 3, 2), numbered(2, 0, 4, 3)
		fresh(t, x, a, b, c)
		x.Evict(0, 0)
		next := numbered(2, 0, 3, 7)
		if was, full := x.Fill(next, way); !full || was != c {
			t.Errorf("15.2: way %d, a place is empty ahead: %+v, %v", way, was, full)
		}
		holds(t, "15.2", x, b, next)
		fresh(t, x, a, d)
		holds(t, "15.2", x, a, b, next, d)
		if was, full := x.Fill(c, way); !full || was != next {
			t.Errorf("15.2: way %d, the set is full: %+v, %v", way, was, full)
		}
		holds(t, "15.2", x, a, b, c, d)
	}
}

// TestFillEmpty: the first empty place is taken, whatever way is given.
func TestFillEmpty(t *testing.T) {
	old := []api.Line{numbered(1, 0, 0, 0), numbered(1, 0, 2, 1), numbered(1, 0, 4, 2), numbered(1, 0, 6, 3)}
	beside := numbered(1, 0, 1, 4)
	l := numbered(9, 9, 8, 5)
	for gone := 1; gone < 16; gone++ {
		for _, way := range append([]int{0, 1, 2, 3, 4, 7}, oddInts...) {
			x := made(t, 2, 4)
			fresh(t, x, old...)
			fresh(t, x, beside)
			want, first := slices.Clone(old), -1
			for i := 3; i >= 0; i-- {
				if gone&(1<<i) == 0 {
					continue
				}
				x.Evict(0, i)
				want = slices.Delete(want, i, i+1)
				first = i
			}
			want = append(slices.Insert(want, first, l), beside)
			if was, full := x.Fill(l, way); full || was != (api.Line{}) {
				t.Errorf("15.2: without the places %04b, way %d: %+v, %v", gone, way, was, full)
			}
			holds(t, "15.2", x, want...)
		}
	}
}

// TestFillFull: in a full set the place way modulo ways is taken.
func TestFillFull(t *testing.T) {
	for ways := 1; ways <= api.MaxWays; ways++ {
		for _, c := range waysOf(ways) {
			x := made(t, 2, ways)
			var old []api.Line
			for i := range ways {
				old = append(old, numbered(1, i, 7, i))
			}
			fresh(t, x, old...)
			other := numbered(1, 0, 6, 0)
			fresh(t, x, other)
			l := numbered(2, 0, 7, 7)
			if was, full := x.Fill(l, c.way); !full || was != old[c.at] {
				t.Errorf("15.2: of %d ways the way %d: %+v, %v", ways, c.way, was, full)
			}
			want := append([]api.Line{other}, old...)
			want[1+c.at] = l
			holds(t, "15.2", x, want...)
			if _, ok := x.Find(1, c.at, 7); ok {
				t.Errorf("15.2: of %d ways the way %d: what was lost is found", ways, c.way)
			}
		}
	}
}

type wayAt struct{ way, at int }

// waysOf is numbers with what they are modulo ways, worked out by steps from 0.
func waysOf(ways int) []wayAt {
	l := []wayAt{{0, 0}}
	up, down := 0, 0
	for way := 1; way <= 3*ways+1; way++ {
		up, down = up+1, down-1
		if up == ways {
			up = 0
		}
		if down < 0 {
			down = ways - 1
		}
		l = append(l, wayAt{way, up}, wayAt{-way, down})
	}
	// 2^63 modulo 1 to 8, by hand: MaxInt is one less, MinInt as far below 0.
	high := [...]int{1: 0, 2: 0, 3: 2, 4: 0, 5: 3, 6: 2, 7: 1, 8: 0}[ways]
	return append(l, wayAt{math.MaxInt, (high + ways - 1) % ways}, wayAt{math.MinInt, (ways - high) % ways})
}

func TestEvict(t *testing.T) {
	x := made(t, 4, 2)
	a, b, c := numbered(1, 0, 4, 0), numbered(1, 0, 8, 1), numbered(1, 0, 7, 2)
	fresh(t, x, a, b, c)
	for _, p := range [][2]int{{1, 0}, {1, 1}, {2, 0}, {2, 1}, {3, 1}} {
		if x.Evict(p[0], p[1]) {
			t.Errorf("15.2: Evict of the empty place %v", p)
		}
	}
	for _, odd := range append([]int{4, 5, 8, 64, 2, 3}, oddInts...) {
		if odd >= 4 || odd < 0 {
			if x.Evict(odd, 0) || x.Evict(odd, 1) || x.Evict(odd, odd) {
				t.Errorf("15.2: Evict of the set %d, which is none", odd)
			}
		}
		if x.Evict(0, odd) || x.Evict(3, odd) || x.Evict(1, odd) {
			t.Errorf("15.2: Evict of the way %d, which is none", odd)
		}
	}
	// Places whose number, counted on over the sets, would be a line's.
	if x.Evict(1, -1) || x.Evict(1, -2) || x.Evict(-1, 2) || x.Evict(-1, 3) || x.Evict(2, 2) || x.Evict(4, -2) {
		t.Error("15.2: Evict of a place in another set")
	}
	holds(t, "15.2", x, a, b, c)
	if !x.Evict(0, 0) || x.Evict(0, 0) {
		t.Error("15.2: Evict(0, 0) tells not once that a line was there")
	}
	holds(t, "15.2", x, b, c)
	if !x.Evict(3, 0) || x.Evict(3, 0) {
		t.Error("15.2: Evict(3, 0) tells not once that a line was there")
	}
	holds(t, "15.2", x, b)
	if l, ok := x.Find(1, 0, 4); ok || l != (api.Line{}) {
		t.Errorf("15.4: what was evicted is found: %+v", l)
	}
	// The place that was left is empty: nothing of its old line is told.
	fresh(t, x, c, a)
	holds(t, "15.2", x, a, b, c)
}

// some are lines of two IDs, ASIDs, IPages and frames, and of pages of several sets; and three that are of none of them. Eight sets of eight ways hold them all.
func some() []api.Line {
	var l []api.Line
	for vpage := range uint64(3) {
		for i := range 8 {
			l = append(l, api.Line{
				ID: 1 + i&1, ASID: 3 + i>>1&1, VPage: vpage + 4*uint64(i>>2),
				IPage: 5 + (vpage+uint64(i))%2, Frame: 7 + (i>>1+int(vpage))%2,
			})
		}
	}
	return append(l, api.Line{ID: 1, ASID: 1, VPage: 7, IPage: 1, Frame: 1}, api.Line{}, api.Line{ID: 3, ASID: 3, VPage: 3, IPage: 3, Frame: 3})
}

// TestLose holds each call that loses lines against the lines that it should leave.
func TestLose(t *testing.T) {
	lines := some()
	for i, c := range loses() {
		x := made(t, 8, 8)
		fresh(t, x, lines...)
		all := x.List()
		var stay []api.Line
		for _, l := range all {
			if !c.lost(l) {
				stay = append(stay, l)
			}
		}
		if n := c.do(x); n != len(all)-len(stay) {
			t.Errorf("15.3: row %d, %s: %d are lost, not %d", i, c.name, n, len(all)-len(stay))
		}
		holds(t, "15.3: "+c.name, x, stay...)
		for _, l := range all {
			got, ok := x.Find(l.ID, l.ASID, l.VPage)
			if ok == c.lost(l) || ok && got != l || !ok && got != (api.Line{}) {
				t.Errorf("15.4: row %d, %s: Find of %+v: %+v, %v", i, c.name, l, got, ok)
			}
		}
		if n := c.do(x); n != 0 {
			t.Errorf("15.3: row %d, %s: once more: %d", i, c.name, n)
		}
		holds(t, "15.3: "+c.name, x, stay...)
		for _, l := range lines {
			if was, full := x.Fill(l, 0); full == c.lost(l) || full && was != l {
				t.Errorf("15.2: row %d, %s: Fill of %+v again: %+v, %v", i, c.name, l, was, full)
			}
		}
		if x.All() != len(lines) {
			t.Errorf("15.3: row %d, %s: the places that were left are not empty", i, c.name)
		}
	}
}

type losing struct {
	name string
	do   func(x *tlb.TLB) int
	lost func(l api.Line) bool
}

func loses() []losing {
	list := []losing{{"All()", (*tlb.TLB).All, func(api.Line) bool { return true }}}
	for _, n := range append([]int{0, 1, 2, 3, 4, 5, 6, 7, 8, 9}, oddInts...) {
		list = append(list,
			losing{"ID", func(x *tlb.TLB) int { return x.ID(n) }, func(l api.Line) bool { return l.ID == n }},
			losing{"Frame", func(x *tlb.TLB) int { return x.Frame(n) }, func(l api.Line) bool { return l.Frame == n }},
		)
		for _, m := range append([]int{0, 1, 3, 4, 5, 6, 7}, oddInts...) {
			p := uint64(m)
			list = append(list,
				losing{"ASID", func(x *tlb.TLB) int { return x.ASID(n, m) }, func(l api.Line) bool { return l.ID == n && l.ASID == m }},
				losing{"Page", func(x *tlb.TLB) int { return x.Page(n, p) }, func(l api.Line) bool { return l.ID == n && l.IPage == p }},
				losing{"VA of ASID 3", func(x *tlb.TLB) int { return x.VA(n, 3, p) }, func(l api.Line) bool { return l.ID == n && l.ASID == 3 && l.VPage == p }},
				losing{"VA of ASID 0", func(x *tlb.TLB) int { return x.VA(n, 0, p) }, func(l api.Line) bool { return l.ID == n && l.ASID == 0 && l.VPage == p }},
				losing{"VA of page 1", func(x *tlb.TLB) int { return x.VA(n, m, 1) }, func(l api.Line) bool { return l.ID == n && l.ASID == m && l.VPage == 1 }},
			)
		}
	}
	return list
}

// TestLoseCounts: by hand, beside the sentences of TestLose.
func TestLoseCounts(t *testing.T) {
	a, b, c, d, e := numbered(1, 0, 1, 0), numbered(1, 1, 1, 1), numbered(2, 0, 1, 0), numbered(1, 0, 2, 2), numbered(2, 1, 3, 0)
	for i, row := range []struct {
		do   func(x *tlb.TLB) int
		n    int
		stay []api.Line
	}{
		{(*tlb.TLB).All, 5, nil},
		{func(x *tlb.TLB) int { return x.ID(1) }, 3, []api.Line{c, e}},
		{func(x *tlb.TLB) int { return x.ID(2) }, 2, []api.Line{a, b, d}},
		{func(x *tlb.TLB) int { return x.ASID(1, 0) }, 2, []api.Line{b, c, e}},
		{func(x *tlb.TLB) int { return x.ASID(2, 1) }, 1, []api.Line{a, b, c, d}},
		{func(x *tlb.TLB) int { return x.VA(1, 0, 1) }, 1, []api.Line{b, c, d, e}},
		{func(x *tlb.TLB) int { return x.VA(1, 1, 2) }, 0, []api.Line{a, b, c, d, e}},
		{func(x *tlb.TLB) int { return x.Page(1, 1000) }, 1, []api.Line{b, c, d, e}},
		{func(x *tlb.TLB) int { return x.Page(2, 1000) }, 2, []api.Line{a, b, d}},
		{func(x *tlb.TLB) int { return x.Page(1, 1) }, 0, []api.Line{a, b, c, d, e}},
		{func(x *tlb.TLB) int { return x.Frame(2000) }, 3, []api.Line{b, d}},
		{func(x *tlb.TLB) int { return x.Frame(0) }, 0, []api.Line{a, b, c, d, e}},
	} {
		x := made(t, 4, 4)
		fresh(t, x, a, b, c, d, e)
		if n := row.do(x); n != row.n {
			t.Errorf("15.3: row %d: %d", i, n)
		}
		holds(t, "15.3", x, row.stay...)
	}
}

func TestListIsNew(t *testing.T) {
	x := made(t, 2, 4)
	fresh(t, x, numbered(1, 0, 0, 0), numbered(1, 0, 1, 1), numbered(1, 0, 2, 2), numbered(1, 0, 3, 3), numbered(1, 0, 5, 4))
	a, b := x.List(), x.List()
	want := slices.Clone(b)
	for i := range a[:cap(a)] {
		a[:cap(a)][i] = api.Line{ID: 77}
	}
	if !slices.Equal(b, want) || !slices.Equal(x.List(), want) {
		t.Error("15.3: two answers of List share memory")
	}
	x.All()
	if !slices.Equal(b, want) {
		t.Error("15.3: an answer of List changes with the lines")
	}
}

// TestApart: what one TLB holds another does not.
func TestApart(t *testing.T) {
	x, y := made(t, 2, 2), made(t, 2, 2)
	l := numbered(1, 0, 1, 0)
	fresh(t, x, l)
	if _, ok := y.Find(1, 0, 1); ok || y.All() != 0 || y.Evict(1, 0) {
		t.Error("15.1: a new one is not empty")
	}
	holds(t, "15.4", x, l)
}

func TestExample(t *testing.T) {
	x := made(t, 1, 2)
	a, b, c := numbered(1, 0, 10, 0), numbered(1, 0, 11, 1), numbered(1, 0, 12, 2)
	fresh(t, x, a, b)
	if was, full := x.Fill(c, 5); !full || was != b {
		t.Errorf("15.2: %+v, %v", was, full)
	}
	holds(t, "15.2", x, a, c)
}
