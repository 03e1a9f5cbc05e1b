package heat_test

import (
	"math"
	"math/rand"
	"slices"
	"testing"

	"demesne/api"
	"demesne/gauss"
	"demesne/heat"
)

const most = api.MaxHeat

var minusZero = math.Copysign(0, -1)

// is holds a heat against another one, and holds a -0 in got for wrong.
func is(got, want complex128) bool {
	return got == want && !hasMinusZero(got)
}

func hasMinusZero(z complex128) bool {
	return real(z) == 0 && math.Signbit(real(z)) || imag(z) == 0 && math.Signbit(imag(z))
}

func of(read, written int) complex128 {
	return complex(float64(read), float64(written))
}

// edges are counts of all kinds, the least and the greatest ones among them.
func edges() []int {
	return []int{0, 1, 2, 3, 4, 7, 8, 1000, most/2 - 1, most / 2, most/2 + 1, most - 2, most - 1, most}
}

// rightOnes are heats with every pair of edges.
func rightOnes() []complex128 {
	var l []complex128
	for _, read := range edges() {
		for _, written := range edges() {
			l = append(l, of(read, written))
		}
	}
	return l
}

// wrongOnes are numbers that are no heats, by one part or both.
func wrongOnes() []complex128 {
	nan, inf := math.NaN(), math.Inf(1)
	var l []complex128
	for _, x := range []float64{nan, inf, -inf, -1, -2, -most, -0.5, 0.5, 1.5, most - 0.5, most + 0.5, most + 1, most * 2, 1 << 24, 1<<24 + 1, 1 << 52, 1<<52 + 1, 1 << 63, 1 << 64, -1 << 63, math.MaxFloat64, math.SmallestNonzeroFloat64} {
		l = append(l, complex(x, 0), complex(0, x), complex(x, x), complex(x, 5), complex(5, x), complex(most, x), complex(x, most))
	}
	return l
}

// zeros are 0 with every sign of its parts.
func zeros() []complex128 {
	return []complex128{0, complex(minusZero, 0), complex(0, minusZero), complex(minusZero, minusZero)}
}

func TestRight(t *testing.T) {
	for _, z := range slices.Concat(rightOnes(), zeros()) {
		if !heat.Right(z) {
			t.Errorf("2.1: Right(%v) is false", z)
		}
	}
	for _, z := range wrongOnes() {
		if heat.Right(z) {
			t.Errorf("2.1: Right(%v) is true", z)
		}
	}
}

func TestTouch(t *testing.T) {
	for _, read := range edges() {
		for _, written := range edges() {
			z := of(read, written)
			if got := heat.Touch(z, false); !is(got, of(min(read+1, most), written)) {
				t.Errorf("2.1: Touch(%v, false): %v", z, got)
			}
			if got := heat.Touch(z, true); !is(got, of(read, min(written+1, most))) {
				t.Errorf("2.1: Touch(%v, true): %v", z, got)
			}
		}
	}
	for _, z := range slices.Concat(wrongOnes(), zeros()) {
		if got := heat.Touch(z, false); !is(got, 1) {
			t.Errorf("2.1: Touch(%v, false), of what counts as 0: %v", z, got)
		}
		if got := heat.Touch(z, true); !is(got, 1i) {
			t.Errorf("2.1: Touch(%v, true), of what counts as 0: %v", z, got)
		}
	}
	if got := heat.Touch(3+1i, true); got != 3+2i {
		t.Errorf("2.1: the example: %v", got)
	}
}

func TestTouchKeepsTheSignOfZeroAway(t *testing.T) {
	if got := heat.Touch(complex(minusZero, 4), true); !is(got, 5i) {
		t.Errorf("2.1: Touch(-0+4i, true): %v", got)
	}
	if got := heat.Touch(complex(4, minusZero), false); !is(got, 5) {
		t.Errorf("2.1: Touch(4-0i, false): %v", got)
	}
}

func TestFade(t *testing.T) {
	for _, read := range edges() {
		for _, written := range edges() {
			if got := heat.Fade(of(read, written)); !is(got, of(read/2, written/2)) {
				t.Errorf("2.1: Fade(%v): %v", of(read, written), got)
			}
		}
	}
	for _, z := range slices.Concat(wrongOnes(), zeros()) {
		if got := heat.Fade(z); !is(got, 0) {
			t.Errorf("2.1: Fade(%v), of what counts as 0: %v", z, got)
		}
	}
	if got := heat.Fade(3 + 1i); got != 1 {
		t.Errorf("2.1: the example: %v", got)
	}
}

func TestRank(t *testing.T) {
	nan := math.NaN()
	for _, c := range []struct {
		l    []complex128
		want []int
	}{
		{nil, nil},
		{[]complex128{}, nil},
		{[]complex128{7 + 7i}, []int{0}},
		{[]complex128{2i, 1, 0}, []int{2, 1, 0}},
		{[]complex128{0, 1, 2i}, []int{0, 1, 2}},
		{[]complex128{1, 1, 1, 1}, []int{0, 1, 2, 3}},
		{[]complex128{1, 1i}, []int{1, 0}},
		{[]complex128{5, 4 + 3i, 3 + 4i, 5i}, []int{3, 2, 1, 0}},
		{[]complex128{3 + 3i, 5}, []int{0, 1}},
		{[]complex128{5, 3 + 3i}, []int{1, 0}},
		{[]complex128{1, 0, complex(nan, nan), -9, 0.5, most + 1, 0}, []int{1, 2, 3, 4, 5, 6, 0}},
		{[]complex128{1, complex(0, minusZero), complex(minusZero, 0), 0}, []int{1, 2, 3, 0}},
		{[]complex128{of(most, most), of(most, most-1), of(most-1, most), 1}, []int{3, 2, 1, 0}},
	} {
		if got := heat.Rank(c.l); !slices.Equal(got, c.want) {
			t.Errorf("2.2: Rank(%v): %v, not %v", c.l, got, c.want)
		}
	}
}

// counted is what a number counts as, told without the calls that are tried.
func counted(z complex128) complex128 {
	for _, x := range []float64{real(z), imag(z)} {
		if !(x >= 0 && x <= most && x == math.Floor(x)) {
			return 0
		}
	}
	return z
}

// someHeats has many that are like others, and some that are wrong.
func someHeats(source *rand.Rand, n int) []complex128 {
	wrong := wrongOnes()
	l := make([]complex128, n)
	for i := range l {
		l[i] = of(source.Intn(6), source.Intn(6))
		if source.Intn(5) == 0 {
			l[i] = wrong[source.Intn(len(wrong))]
		}
	}
	return l
}

func TestRankOfMany(t *testing.T) {
	source := rand.New(rand.NewSource(2))
	for n := range 300 {
		l := someHeats(source, n)
		before := bitsOf(l)
		ranked := heat.Rank(l)
		if !slices.Equal(bitsOf(l), before) {
			t.Fatalf("2.2: Rank changed its list of %d", n)
		}
		sorted := slices.Sorted(slices.Values(ranked))
		for i, place := range sorted {
			if i != place {
				t.Fatalf("2.2: Rank of %d does not have each place once: %v", n, ranked)
			}
		}
		if len(ranked) != n {
			t.Fatalf("2.2: Rank of %d has %d places", n, len(ranked))
		}
		for i := 1; i < n; i++ {
			a, b := counted(l[ranked[i-1]]), counted(l[ranked[i]])
			if gauss.Less(b, a) || !gauss.Less(a, b) && ranked[i-1] > ranked[i] {
				t.Fatalf("2.2: Rank(%v): %v at %d", l, ranked, i)
			}
		}
	}
}

// bitsOf tells NaNs as they are, which == does not.
func bitsOf(l []complex128) []uint64 {
	var bits []uint64
	for _, z := range l {
		bits = append(bits, math.Float64bits(real(z)), math.Float64bits(imag(z)))
	}
	return bits
}

func TestColdest(t *testing.T) {
	l := []complex128{5, 3 + 4i, 4 + 3i, 1, -9, 1, 5i} // ranked: 4 3 5 6 1 2 0
	yes := func(places ...int) []bool {
		not := make([]bool, 9)
		for _, place := range places {
			not[place] = true
		}
		return not
	}
	for _, c := range []struct {
		l    []complex128
		not  []bool
		want int
	}{
		{nil, nil, -1},
		{nil, []bool{true}, -1},
		{nil, []bool{false}, -1},
		{[]complex128{3}, nil, 0},
		{[]complex128{3}, []bool{}, 0},
		{[]complex128{3}, []bool{false}, 0},
		{[]complex128{3}, []bool{true}, -1},
		{[]complex128{0, 0, 0}, []bool{true}, 1},
		{[]complex128{2i, 1, 0}, nil, 2},
		{[]complex128{2i, 1, 0}, []bool{false, false, true}, 1},
		{l, nil, 4},
		{l, yes(), 4},
		{l, yes(7, 8), 4},
		{l, yes(4), 3},
		{l, yes(3, 4), 5},
		{l, yes(3, 4, 5), 6},
		{l, yes(3, 4, 5, 6), 1},
		{l, yes(1, 3, 4, 5, 6), 2},
		{l, yes(1, 2, 3, 4, 5, 6), 0},
		{l, yes(0, 1, 2, 3, 4, 5, 6), -1},
		{l, yes(0, 1, 2, 3, 4, 5, 6)[:6], 6},
		{l, yes(4)[:4], 4},
	} {
		if got := heat.Coldest(c.l, c.not); got != c.want {
			t.Errorf("2.3: Coldest(%v, %v): %d, not %d", c.l, c.not, got, c.want)
		}
	}
}

func TestColdestIsTheFirstOfRank(t *testing.T) {
	source := rand.New(rand.NewSource(3))
	for range 2000 {
		l := someHeats(source, source.Intn(12))
		not := make([]bool, source.Intn(14))
		for i := range not {
			not[i] = source.Intn(3) > 0
		}
		listBefore, notBefore := bitsOf(l), slices.Clone(not)
		want := -1
		for _, place := range heat.Rank(l) {
			if place >= len(not) || !not[place] {
				want = place
				break
			}
		}
		if got := heat.Coldest(l, not); got != want {
			t.Fatalf("2.3: Coldest(%v, %v): %d, not %d", l, not, got, want)
		}
		if !slices.Equal(bitsOf(l), listBefore) || !slices.Equal(not, notBefore) {
			t.Fatal("2.3: Coldest changed what it was given")
		}
	}
}

func TestTouchedIsNotColder(t *testing.T) {
	for _, z := range slices.Concat(rightOnes(), wrongOnes(), zeros()) {
		for _, store := range []bool{false, true} {
			touched := heat.Touch(z, store)
			if !heat.Right(touched) || gauss.Less(touched, counted(z)) {
				t.Errorf("2.4: Touch(%v, %v): %v", z, store, touched)
			}
			if ranked := heat.Rank([]complex128{z, touched}); ranked[0] != 0 {
				t.Errorf("2.4: %v ranks behind %v, which it became", z, touched)
			}
		}
	}
}

func TestFadeKeepsWhatIsAtMost(t *testing.T) {
	atMost := func(a, b complex128) bool { return real(a) <= real(b) && imag(a) <= imag(b) }
	all := rightOnes()
	for _, a := range all {
		for _, b := range all {
			if atMost(a, b) && !atMost(heat.Fade(a), heat.Fade(b)) {
				t.Errorf("2.4: Fade(%v): %v, Fade(%v): %v", a, heat.Fade(a), b, heat.Fade(b))
			}
		}
	}
}

func TestTwentyOneFadesLeaveNothing(t *testing.T) {
	for _, z := range slices.Concat(rightOnes(), wrongOnes(), zeros()) {
		faded := z
		for range 21 {
			faded = heat.Fade(faded)
			if !heat.Right(faded) {
				t.Errorf("2.4: %v became %v", z, faded)
			}
		}
		if !is(faded, 0) {
			t.Errorf("2.4: %v behind 21 fades: %v", z, faded)
		}
	}
	faded := of(most, most)
	for range 20 {
		faded = heat.Fade(faded)
	}
	if !is(faded, 1+1i) {
		t.Errorf("2.4: the hottest behind 20 fades: %v", faded)
	}
}
