package buddy_test

import (
	"math"
	"math/rand"
	"slices"
	"testing"

	"demesne/api"
	"demesne/buddy"
)

// oddNumbers are no frame's and no order's of any buddy.
var oddNumbers = []int{-1, -2, -512, api.MaxFrames, api.MaxFrames + 1, 1 << 32, 1<<32 + 1, -1 << 32, math.MaxInt, math.MaxInt - 1, math.MaxInt - 511, math.MinInt, math.MinInt + 1, math.MinInt + 512}

// made is a buddy of n frames from first on.
func made(t *testing.T, first, n int) *buddy.Buddy {
	t.Helper()
	b, e := buddy.New(first, n)
	if e != api.OK || b == nil {
		t.Fatalf("7.1: New(%d, %d): %v, %d", first, n, b, e)
	}
	return b
}

// taken is a buddy of n frames from first on, all taken.
func taken(t *testing.T, first, n int) *buddy.Buddy {
	t.Helper()
	b := made(t, first, n)
	for range n {
		if _, e := b.Take(0); e != api.OK {
			t.Fatalf("7.1: Take(0): %d", e)
		}
	}
	has(t, b, first, first+n, nil)
	return b
}

// take fails the test if a Take does not answer frame and e.
func take(t *testing.T, b *buddy.Buddy, order, frame int, e api.Errno) {
	t.Helper()
	if got, err := b.Take(order); got != frame || err != e {
		t.Fatalf("7.1: Take(%d): %d, %d; want %d, %d", order, got, err, frame, e)
	}
}

// give fails the test if a Give does not answer e.
func give(t *testing.T, b *buddy.Buddy, frame, order int, e api.Errno) {
	t.Helper()
	if got := b.Give(frame, order); got != e {
		t.Fatalf("7.2: Give(%d, %d): %d; want %d", frame, order, got, e)
	}
}

// has fails the test if the free runs of a buddy of the frames from first to end - 1 are not these.
func has(t *testing.T, b *buddy.Buddy, first, end int, runs [][2]int) {
	t.Helper()
	if got := b.Runs(); !slices.Equal(got, runs) {
		t.Fatalf("7.3: Runs: %v; want %v", got, runs)
	}
	count := 0
	for _, r := range runs {
		count += 1 << r[1]
	}
	if b.Free() != count {
		t.Fatalf("7.3: Free: %d; want %d", b.Free(), count)
	}
	for frame := first - 2; frame < end+2; frame++ {
		if want := covers(runs, frame); b.Has(frame) != want {
			t.Fatalf("7.3: Has(%d): not %v, the runs being %v", frame, want, runs)
		}
	}
}

// covers tells whether one of the runs has the frame.
func covers(runs [][2]int, frame int) bool {
	return slices.ContainsFunc(runs, func(r [2]int) bool { return r[0] <= frame && frame < r[0]+1<<r[1] })
}

// cut is the frames from first on as the greatest runs, each found by trying the orders.
func cut(first, n int) [][2]int {
	var l [][2]int
	for end := first + n; first < end; {
		order := 9
		for first%(1<<order) != 0 || first+1<<order > end {
			order--
		}
		l = append(l, [2]int{first, order})
		first += 1 << order
	}
	return l
}

func TestNew(t *testing.T) {
	for _, c := range []struct {
		first, n int
		runs     [][2]int
	}{
		{0, 0, nil},
		{7, 0, nil},
		{0, 1, [][2]int{{0, 0}}},
		{1, 1, [][2]int{{1, 0}}},
		{0, 2, [][2]int{{0, 1}}},
		{1, 2, [][2]int{{1, 0}, {2, 0}}},
		{2, 7, [][2]int{{2, 1}, {4, 2}, {8, 0}}},
		{0, 7, [][2]int{{0, 2}, {4, 1}, {6, 0}}},
		{1, 7, [][2]int{{1, 0}, {2, 1}, {4, 2}}},
		{0, 511, [][2]int{{0, 8}, {256, 7}, {384, 6}, {448, 5}, {480, 4}, {496, 3}, {504, 2}, {508, 1}, {510, 0}}},
		{0, 512, [][2]int{{0, 9}}},
		{0, 513, [][2]int{{0, 9}, {512, 0}}},
		{0, 1024, [][2]int{{0, 9}, {512, 9}}},
		{1, 512, [][2]int{{1, 0}, {2, 1}, {4, 2}, {8, 3}, {16, 4}, {32, 5}, {64, 6}, {128, 7}, {256, 8}, {512, 0}}},
		{256, 1024, [][2]int{{256, 8}, {512, 9}, {1024, 8}}},
		{api.MaxFrames, 0, nil},
		{api.MaxFrames - 1, 0, nil},
		{api.MaxFrames - 1, 1, [][2]int{{api.MaxFrames - 1, 0}}},
		{api.MaxFrames - 515, 515, [][2]int{{api.MaxFrames - 515, 0}, {api.MaxFrames - 514, 1}, {api.MaxFrames - 512, 9}}},
	} {
		has(t, made(t, c.first, c.n), c.first, c.first+c.n, c.runs)
	}
	for first := range 70 {
		for n := range 70 {
			has(t, made(t, first, n), first, first+n, cut(first, n))
		}
	}
}

func TestNewOfMany(t *testing.T) {
	for _, first := range []int{0, 1, 511, 512, 513, 4096} {
		n := api.MaxFrames - first
		b := made(t, first, n)
		if !slices.Equal(b.Runs(), cut(first, n)) || b.Free() != n {
			t.Errorf("7.3: New(%d, %d): %d runs, %d free", first, n, len(b.Runs()), b.Free())
		}
		if b.Has(first-1) || !b.Has(first) || !b.Has(api.MaxFrames-1) || b.Has(api.MaxFrames) {
			t.Errorf("7.3: New(%d, %d): Has at the ends", first, n)
		}
	}
}

func TestNewRefusals(t *testing.T) {
	for _, c := range [][2]int{{-1, 0}, {-1, 1}, {0, -1}, {-1, -1}, {5, -1}, {api.MaxFrames + 1, 0}, {api.MaxFrames + 1, -1}, {api.MaxFrames, 1}, {api.MaxFrames, -1}, {api.MaxFrames - 1, 2}, {1, api.MaxFrames}, {0, api.MaxFrames + 1}, {1 << 32, 0}, {0, 1 << 32}, {1 << 32, 1 << 32}, {math.MaxInt, 0}, {math.MaxInt, math.MaxInt}, {0, math.MaxInt}, {1, math.MaxInt}, {math.MinInt, 0}, {math.MinInt, math.MinInt}, {math.MinInt, math.MaxInt}, {math.MaxInt, math.MinInt}, {0, math.MinInt}} {
		if b, e := buddy.New(c[0], c[1]); b != nil || e != api.ErrArg {
			t.Errorf("7.1: New(%d, %d): %v, %d", c[0], c[1], b, e)
		}
	}
}

func TestTakeHalves(t *testing.T) {
	b := made(t, 512, 512)
	take(t, b, 0, 512, api.OK)
	has(t, b, 512, 1024, [][2]int{{513, 0}, {514, 1}, {516, 2}, {520, 3}, {528, 4}, {544, 5}, {576, 6}, {640, 7}, {768, 8}})
	take(t, b, 3, 520, api.OK)
	take(t, b, 3, 528, api.OK)
	has(t, b, 512, 1024, [][2]int{{513, 0}, {514, 1}, {516, 2}, {536, 3}, {544, 5}, {576, 6}, {640, 7}, {768, 8}})
	take(t, b, 9, 0, api.ErrMem)
	take(t, b, 8, 768, api.OK)
	take(t, b, 8, 0, api.ErrMem)
	has(t, b, 512, 1024, [][2]int{{513, 0}, {514, 1}, {516, 2}, {536, 3}, {544, 5}, {576, 6}, {640, 7}})
}

func TestTakeOfEachOrder(t *testing.T) {
	for order := range 10 {
		b := made(t, 1024, 1024)
		for frame := 1024; frame < 2048; frame += 1 << order {
			take(t, b, order, frame, api.OK)
			has(t, b, 1024, 2048, cut(frame+1<<order, 2048-frame-1<<order))
		}
		take(t, b, order, 0, api.ErrMem)
	}
}

func TestTakeIsOfTheLeastOrder(t *testing.T) {
	b := made(t, 2, 7)
	take(t, b, 0, 8, api.OK)
	take(t, b, 0, 2, api.OK)
	has(t, b, 2, 9, [][2]int{{3, 0}, {4, 2}})
	take(t, b, 1, 4, api.OK)
	has(t, b, 2, 9, [][2]int{{3, 0}, {6, 1}})
	take(t, b, 1, 6, api.OK)
	take(t, b, 1, 0, api.ErrMem)
	take(t, b, 0, 3, api.OK)
	take(t, b, 0, 0, api.ErrMem)
}

func TestTakeIsTheLeastFrame(t *testing.T) {
	b := taken(t, 64, 640)
	for _, frame := range []int{700, 70, 390, 69, 500, 127, 128} {
		give(t, b, frame, 0, api.OK)
	}
	take(t, b, 0, 69, api.OK)
	take(t, b, 0, 70, api.OK)
	give(t, b, 64, 0, api.OK)
	for _, want := range []int{64, 127, 128, 390, 500, 700} {
		take(t, b, 0, want, api.OK)
	}
	for _, frame := range []int{512, 96, 640, 160} {
		give(t, b, frame, 5, api.OK)
	}
	take(t, b, 5, 96, api.OK)
	take(t, b, 4, 160, api.OK)
	take(t, b, 5, 512, api.OK)
	take(t, b, 4, 176, api.OK)
	take(t, b, 5, 640, api.OK)
	take(t, b, 0, 0, api.ErrMem)
}

func TestTakeRefusals(t *testing.T) {
	full, empty := made(t, 2, 7), made(t, 2, 0)
	for _, order := range append([]int{10, 11, 63, 64, 65}, oddNumbers...) {
		take(t, full, order, 0, api.ErrArg)
		take(t, empty, order, 0, api.ErrArg)
	}
	for order := range 10 {
		take(t, empty, order, 0, api.ErrMem)
		if order > 2 {
			take(t, full, order, 0, api.ErrMem)
		}
	}
	has(t, full, 2, 9, [][2]int{{2, 1}, {4, 2}, {8, 0}})
	has(t, empty, 2, 2, nil)
}

func TestGiveJoins(t *testing.T) {
	b := taken(t, 0, 1024)
	give(t, b, 1, 0, api.OK)
	for order := range 9 {
		give(t, b, 1<<(order+1), order+1, api.OK)
	}
	has(t, b, 0, 1024, [][2]int{{1, 0}, {2, 1}, {4, 2}, {8, 3}, {16, 4}, {32, 5}, {64, 6}, {128, 7}, {256, 8}, {512, 9}})
	give(t, b, 0, 0, api.OK)
	has(t, b, 0, 1024, [][2]int{{0, 9}, {512, 9}})
}

func TestGiveJoinsTheBuddyAlone(t *testing.T) {
	b := taken(t, 0, 16)
	give(t, b, 1, 0, api.OK)
	give(t, b, 2, 0, api.OK)
	has(t, b, 0, 16, [][2]int{{1, 0}, {2, 0}})
	give(t, b, 4, 1, api.OK)
	has(t, b, 0, 16, [][2]int{{1, 0}, {2, 0}, {4, 1}})
	give(t, b, 6, 0, api.OK)
	has(t, b, 0, 16, [][2]int{{1, 0}, {2, 0}, {4, 1}, {6, 0}})
	give(t, b, 8, 2, api.OK)
	has(t, b, 0, 16, [][2]int{{1, 0}, {2, 0}, {4, 1}, {6, 0}, {8, 2}})
	give(t, b, 7, 0, api.OK)
	has(t, b, 0, 16, [][2]int{{1, 0}, {2, 0}, {4, 2}, {8, 2}})
	give(t, b, 3, 0, api.OK)
	has(t, b, 0, 16, [][2]int{{1, 0}, {2, 1}, {4, 2}, {8, 2}})
	give(t, b, 12, 2, api.OK)
	has(t, b, 0, 16, [][2]int{{1, 0}, {2, 1}, {4, 2}, {8, 3}})
	give(t, b, 0, 0, api.OK)
	has(t, b, 0, 16, [][2]int{{0, 4}})
}

func TestGiveAtTheEnds(t *testing.T) {
	for _, c := range [][2]int{{1, 1}, {0, 1}, {1, 2}, {0, 3}, {63, 1}, {63, 2}, {64, 1}, {511, 2}, {513, 511}, {0, 511}, {api.MaxFrames - 1, 1}, {api.MaxFrames - 3, 3}, {api.MaxFrames - 512, 512}} {
		first, n := c[0], c[1]
		up, down := taken(t, first, n), taken(t, first, n)
		for i := range n {
			give(t, up, first+i, 0, api.OK)
			give(t, down, first+n-1-i, 0, api.OK)
		}
		has(t, up, first, first+n, cut(first, n))
		has(t, down, first, first+n, cut(first, n))
	}
}

func TestGiveRefusesWhatIsNoRun(t *testing.T) {
	for _, b := range []*buddy.Buddy{made(t, 2, 7), taken(t, 2, 7)} {
		free := b.Runs()
		for _, c := range [][2]int{{1, 0}, {9, 0}, {0, 0}, {10, 0}, {0, 1}, {8, 1}, {10, 1}, {3, 1}, {5, 1}, {7, 1}, {0, 2}, {8, 2}, {2, 2}, {3, 2}, {6, 2}, {0, 3}, {8, 3}, {4, 3}, {0, 9}, {512, 9}, {2, 9}} {
			give(t, b, c[0], c[1], api.ErrArg)
		}
		for _, odd := range append([]int{10, 11, 62, 63, 64, 65}, oddNumbers...) {
			for frame := range 10 {
				give(t, b, frame, odd, api.ErrArg)
			}
			for order := range 10 {
				give(t, b, odd, order, api.ErrArg)
			}
			give(t, b, odd, odd, api.ErrArg)
		}
		has(t, b, 2, 9, free)
	}
	none := made(t, 0, 0)
	for order := range 10 {
		give(t, none, 0, order, api.ErrArg)
	}
	has(t, none, 0, 0, nil)
}

func TestGiveRefusesWhatIsFree(t *testing.T) {
	b := made(t, 0, 1024)
	for order := range 10 {
		for frame := 0; frame < 1024; frame += 1 << order {
			give(t, b, frame, order, api.ErrState)
		}
	}
	has(t, b, 0, 1024, [][2]int{{0, 9}, {512, 9}})
	for _, free := range []int{0, 1, 255, 256, 300, 510, 511} {
		b := taken(t, 0, 512)
		give(t, b, free, 0, api.OK)
		for order := range 10 {
			give(t, b, free>>order<<order, order, api.ErrState)
		}
		has(t, b, 0, 512, [][2]int{{free, 0}})
	}
	part := taken(t, 0, 16)
	give(t, part, 4, 2, api.OK)
	for _, c := range [][2]int{{4, 0}, {5, 0}, {6, 0}, {7, 0}, {4, 1}, {6, 1}, {4, 2}, {0, 3}, {0, 4}} {
		give(t, part, c[0], c[1], api.ErrState)
	}
	has(t, part, 0, 16, [][2]int{{4, 2}})
	give(t, part, 8, 3, api.OK)
	give(t, part, 0, 2, api.OK)
	has(t, part, 0, 16, [][2]int{{0, 4}})
}

func TestGiveDoesNotAskHowItWasTaken(t *testing.T) {
	whole := made(t, 0, 16)
	take(t, whole, 4, 0, api.OK)
	give(t, whole, 6, 1, api.OK)
	give(t, whole, 3, 0, api.OK)
	has(t, whole, 0, 16, [][2]int{{3, 0}, {6, 1}})
	pieces := taken(t, 0, 16)
	give(t, pieces, 8, 3, api.OK)
	give(t, pieces, 0, 3, api.OK)
	has(t, pieces, 0, 16, [][2]int{{0, 4}})
}

func TestHasNoOddFrames(t *testing.T) {
	for _, b := range []*buddy.Buddy{made(t, 2, 7), made(t, 0, 0), made(t, 0, 512), made(t, 0, api.MaxFrames), taken(t, 0, 512)} {
		for _, frame := range oddNumbers {
			if b.Has(frame) {
				t.Errorf("7.3: Has(%d)", frame)
			}
		}
	}
}

func TestRunsAreTheCallers(t *testing.T) {
	b := made(t, 2, 7)
	l := b.Runs()
	clear(l[:cap(l)])
	has(t, b, 2, 9, [][2]int{{2, 1}, {4, 2}, {8, 0}})
	l = b.Runs()
	take(t, b, 2, 4, api.OK)
	if !slices.Equal(l, [][2]int{{2, 1}, {4, 2}, {8, 0}}) {
		t.Errorf("7.3: a Take changed what elder Runs told: %v", l)
	}
	take(t, b, 0, 8, api.OK)
}

func TestBuddiesAreApart(t *testing.T) {
	a, b := made(t, 0, 8), made(t, 0, 8)
	take(t, a, 3, 0, api.OK)
	has(t, a, 0, 8, nil)
	has(t, b, 0, 8, [][2]int{{0, 3}})
}

func TestAllFramesOneByOne(t *testing.T) {
	for _, first := range []int{0, 1000} {
		n := api.MaxFrames - first
		b := made(t, first, n)
		told := make([]bool, api.MaxFrames)
		for range n {
			frame, e := b.Take(0)
			if e != api.OK || frame < first || frame >= api.MaxFrames || told[frame] {
				t.Fatalf("7.4: Take(0): %d, %d", frame, e)
			}
			told[frame] = true
		}
		take(t, b, 0, 0, api.ErrMem)
		if b.Free() != 0 || len(b.Runs()) != 0 {
			t.Fatalf("7.3: all taken: Free %d, %d runs", b.Free(), len(b.Runs()))
		}
		for _, i := range rand.New(rand.NewSource(7)).Perm(n) {
			give(t, b, first+i, 0, api.OK)
		}
		if !slices.Equal(b.Runs(), cut(first, n)) || b.Free() != n {
			t.Errorf("7.4: all given: Free %d, %d runs", b.Free(), len(b.Runs()))
		}
	}
}

// TestGivenInPieces takes runs until there are no more, and gives all of their frames back, cut anew.
func TestGivenInPieces(t *testing.T) {
	r := rand.New(rand.NewSource(70))
	for range 40 {
		first, n := r.Intn(1500), r.Intn(3000)
		b := made(t, first, n)
		told := map[int]int{}
		for b.Free() > 0 {
			order := r.Intn(10)
			frame, e := b.Take(order)
			if e != api.OK {
				continue
			}
			for i := range 1 << order {
				if told[frame+i]++; told[frame+i] > 1 || b.Has(frame+i) {
					t.Fatalf("7.4: Take(%d): %d: the frame %d is taken twice or free", order, frame, frame+i)
				}
			}
		}
		if len(told) != n {
			t.Fatalf("7.4: %d frames taken of %d", len(told), n)
		}
		pieces := piecesOf(r, first, n)
		r.Shuffle(len(pieces), func(i, j int) { pieces[i], pieces[j] = pieces[j], pieces[i] })
		for _, p := range pieces {
			give(t, b, p[0], p[1], api.OK)
		}
		has(t, b, first, first+n, cut(first, n))
	}
}

// piecesOf cuts the frames into runs, some of which are smaller than they might be.
func piecesOf(r *rand.Rand, first, n int) [][2]int {
	var l [][2]int
	for _, run := range cut(first, n) {
		less := r.Intn(run[1] + 1)
		for i := range 1 << less {
			l = append(l, [2]int{run[0] + i<<(run[1]-less), run[1] - less})
		}
	}
	return l
}

// plain is a buddy as the chapter tells it: a list of its free runs.
type plain struct {
	first, end int
	runs       [][2]int
}

func (p *plain) take(order int) (int, api.Errno) {
	if order < 0 || order > 9 {
		return 0, api.ErrArg
	}
	best := -1
	for i, run := range p.runs {
		if run[1] >= order && (best < 0 || run[1] < p.runs[best][1]) {
			best = i
		}
	}
	if best < 0 {
		return 0, api.ErrMem
	}
	run := p.runs[best]
	p.runs = slices.Delete(p.runs, best, best+1)
	for run[1] > order {
		run[1]--
		p.put([2]int{run[0] + 1<<run[1], run[1]})
	}
	return run[0], api.OK
}

func (p *plain) give(frame, order int) api.Errno {
	if order < 0 || order > 9 || frame%(1<<order) != 0 || frame < p.first || frame+1<<order > p.end {
		return api.ErrArg
	}
	for i := range 1 << order {
		if covers(p.runs, frame+i) {
			return api.ErrState
		}
	}
	for order < 9 {
		half := frame%(2<<order) - frame%(1<<order)
		other := slices.Index(p.runs, [2]int{frame - 2*half + 1<<order, order})
		if other < 0 {
			break
		}
		p.runs = slices.Delete(p.runs, other, other+1)
		frame -= half
		order++
	}
	p.put([2]int{frame, order})
	return api.OK
}

// put makes a run free, the runs being by frame.
func (p *plain) put(run [2]int) {
	at := 0
	for at < len(p.runs) && p.runs[at][0] < run[0] {
		at++
	}
	p.runs = slices.Insert(p.runs, at, run)
}

func TestAgainstPlain(t *testing.T) {
	r := rand.New(rand.NewSource(77))
	for _, span := range []int{3, 20, 130, 1600} {
		for range 15 {
			first, n := r.Intn(span), r.Intn(span)
			b, p := made(t, first, n), &plain{first, first + n, cut(first, n)}
			for range 300 {
				step(t, r, b, p)
				has(t, b, first, first+n, p.runs)
			}
		}
	}
}

// step does one thing with both buddies, and fails the test if they do not answer alike.
func step(t *testing.T, r *rand.Rand, b *buddy.Buddy, p *plain) {
	t.Helper()
	order := min(r.Intn(12)-1, r.Intn(12)-1)
	if r.Intn(2) == 0 {
		want, e := p.take(order)
		take(t, b, order, want, e)
		return
	}
	frame := p.first - 2 + r.Intn(p.end-p.first+4)
	if order > 0 && r.Intn(8) > 0 {
		frame = frame >> order << order
	}
	give(t, b, frame, order, p.give(frame, order))
}
