package gauss_test

import (
	"math"
	"math/big"
	"testing"

	"demesne/api"
	"demesne/gauss"
)

const (
	whole = 1 << 52
	small = 1 << 24
)

var minusZero = math.Copysign(0, -1)

// is holds a number against another one, and holds a -0 in got for wrong.
func is(got, want complex128) bool {
	return got == want && !hasMinusZero(got)
}

func hasMinusZero(z complex128) bool {
	return real(z) == 0 && math.Signbit(real(z)) || imag(z) == 0 && math.Signbit(imag(z))
}

// notWhole are numbers that no call takes.
func notWhole() []complex128 {
	nan, inf := math.NaN(), math.Inf(1)
	var l []complex128
	for _, x := range []float64{nan, inf, -inf, 0.5, -0.5, small + 0.5, math.SmallestNonzeroFloat64, whole + 1, -whole - 1, whole + 2, 1 << 62, -1 << 63, 1 << 64, math.MaxFloat64} {
		l = append(l, complex(x, 0), complex(0, x), complex(x, x), complex(1, x), complex(x, -1))
	}
	return l
}

// notSmall are whole numbers beyond the small ones.
func notSmall() []complex128 {
	var l []complex128
	for _, x := range []float64{small + 1, -small - 1, 1 << 25, whole, -whole} {
		l = append(l, complex(x, 0), complex(0, x), complex(x, x), complex(small, x), complex(x, -small))
	}
	return l
}

// grid is every number with both parts from -most to most.
func grid(most int) []complex128 {
	var l []complex128
	for re := -most; re <= most; re++ {
		for im := -most; im <= most; im++ {
			l = append(l, complex(float64(re), float64(im)))
		}
	}
	return l
}

// greatOnes are small numbers near the edge.
func greatOnes() []complex128 {
	var l []complex128
	parts := []float64{small, small - 1, -small, -small + 1, small / 3, -12345677, 0, 1}
	for _, re := range parts {
		for _, im := range parts {
			l = append(l, complex(re, im))
		}
	}
	return l
}

func TestOf(t *testing.T) {
	parts := []int{-whole, -whole + 1, -5, -1, 0, 1, 7, whole - 1, whole}
	for _, re := range parts {
		for _, im := range parts {
			z, e := gauss.Of(re, im)
			if e != api.OK || !is(z, complex(float64(re), float64(im))) {
				t.Errorf("1.1: Of(%d, %d): %v, %d", re, im, z, e)
			}
			back, up, e := gauss.Parts(z)
			if e != api.OK || back != re || up != im {
				t.Errorf("1.1: Parts(%v): %d, %d, %d", z, back, up, e)
			}
		}
	}
	for _, x := range []int{whole + 1, -whole - 1, whole + 2, 1 << 53, math.MaxInt, math.MinInt, math.MinInt + 1} {
		for _, c := range [][2]int{{x, 0}, {0, x}, {x, x}, {-1, x}, {x, whole}} {
			if z, e := gauss.Of(c[0], c[1]); e != api.ErrRange || !is(z, 0) {
				t.Errorf("1.1: Of(%v): %v, %d", c, z, e)
			}
		}
	}
}

func TestPartsRefuses(t *testing.T) {
	for _, z := range notWhole() {
		if re, im, e := gauss.Parts(z); e != api.ErrForm || re != 0 || im != 0 {
			t.Errorf("1.1: Parts(%v): %d, %d, %d", z, re, im, e)
		}
	}
	for _, z := range []complex128{complex(minusZero, 3), complex(minusZero, minusZero)} {
		if re, im, e := gauss.Parts(z); e != api.OK || re != 0 || im != int(imag(z)) {
			t.Errorf("1.1: Parts(%v): %d, %d, %d", z, re, im, e)
		}
	}
}

func TestTurn(t *testing.T) {
	z := complex128(whole - 3i)
	turned := []complex128{whole - 3i, 3 + whole*1i, -whole + 3i, -3 - whole*1i}
	for k := -9; k <= 9; k++ {
		if got := gauss.Turn(z, k); !is(got, turned[((k%4)+4)%4]) {
			t.Errorf("1.1: Turn(%v, %d): %v", z, k, got)
		}
	}
	for k, want := range map[int]int{math.MinInt: 0, math.MinInt + 1: 1, math.MinInt + 3: 3, math.MaxInt: 3, math.MaxInt - 1: 2, 1<<62 + 1: 1} {
		if got := gauss.Turn(z, k); !is(got, turned[want]) {
			t.Errorf("1.1: Turn(%v, %d): %v", z, k, got)
		}
	}
	if got := gauss.Turn(1+2i, 1); !is(got, -2+1i) {
		t.Errorf("1.1: Turn(1+2i, 1): %v", got)
	}
	for _, z := range notWhole() {
		for k := range 4 {
			if got := gauss.Turn(z, k); !is(got, 0) {
				t.Errorf("1.1: Turn(%v, %d): %v", z, k, got)
			}
		}
	}
}

func TestTurnAnswersNoMinusZero(t *testing.T) {
	for _, z := range []complex128{0, 5, -5, 5i, -5i, complex(minusZero, minusZero), complex(minusZero, 2), complex(2, minusZero)} {
		for k := range 4 {
			if got := gauss.Turn(z, k); hasMinusZero(got) {
				t.Errorf("1.1: Turn(%v, %d): %v", z, k, got)
			}
		}
	}
}

func TestAdd(t *testing.T) {
	rows := []struct {
		a, b, sum complex128
		e         api.Errno
	}{
		{1 + 2i, 3 - 5i, 4 - 3i, api.OK},
		{0, 0, 0, api.OK},
		{whole - 1, 1, whole, api.OK},
		{-whole + 1, -1, -whole, api.OK},
		{whole + whole*1i, -whole - whole*1i, 0, api.OK},
		{whole, whole * 1i, whole + whole*1i, api.OK},
		{whole, 1, 0, api.ErrRange},
		{whole * 1i, 1i, 0, api.ErrRange},
		{-whole, -1, 0, api.ErrRange},
		{-whole * 1i, -1i, 0, api.ErrRange},
		{whole + 7i, whole, 0, api.ErrRange},
		{complex(minusZero, minusZero), complex(minusZero, minusZero), 0, api.OK},
		{complex(minusZero, 1), complex(minusZero, 1), 2i, api.OK},
	}
	for _, r := range rows {
		if sum, e := gauss.Add(r.a, r.b); e != r.e || !is(sum, r.sum) {
			t.Errorf("1.2: Add(%v, %v): %v, %d", r.a, r.b, sum, e)
		}
	}
	for _, z := range notWhole() {
		for _, w := range []complex128{0, 1 - 1i, whole, z} {
			if sum, e := gauss.Add(z, w); e != api.ErrForm || !is(sum, 0) {
				t.Errorf("1.2: Add(%v, %v): %v, %d", z, w, sum, e)
			}
			if sum, e := gauss.Add(w, z); e != api.ErrForm || !is(sum, 0) {
				t.Errorf("1.2: Add(%v, %v): %v, %d", w, z, sum, e)
			}
		}
	}
}

func TestMul(t *testing.T) {
	rows := []struct{ a, b, product complex128 }{
		{1 + 2i, 3 - 1i, 5 + 5i},
		{1i, 1i, -1},
		{0, 7 - 3i, 0},
		{-1, 0, 0},
		{-3i, 0, 0},
		{small, small, 1 << 48},
		{small + small*1i, small + small*1i, 1 << 49 * 1i},
		{small - small*1i, small + small*1i, 1 << 49},
		{small - 1 - small*1i, -small - 1i, -1<<48 + (1<<48+1-small)*1i},
		{complex(minusZero, minusZero), 4, 0},
		{complex(2, minusZero), -4, -8},
	}
	for _, r := range rows {
		if z, e := gauss.Mul(r.a, r.b); e != api.OK || !is(z, r.product) {
			t.Errorf("1.2: Mul(%v, %v): %v, %d", r.a, r.b, z, e)
		}
	}
}

func TestNorm(t *testing.T) {
	rows := []struct {
		z complex128
		n int
	}{
		{0, 0}, {1, 1}, {-1i, 1}, {3 + 4i, 25}, {-3 - 4i, 25}, {complex(minusZero, -2), 4},
		{small, 1 << 48}, {-small * 1i, 1 << 48}, {small - small*1i, 1 << 49}, {small - 1 + 1i, (small-1)*(small-1) + 1},
	}
	for _, r := range rows {
		if n, e := gauss.Norm(r.z); e != api.OK || n != r.n {
			t.Errorf("1.2: Norm(%v): %d, %d", r.z, n, e)
		}
	}
}

// refusals runs Mul, Div, Norm and Less on a number that they do not take.
func refusals(t *testing.T, z, w complex128, want api.Errno) {
	t.Helper()
	for _, c := range [][2]complex128{{z, w}, {w, z}} {
		a, b := c[0], c[1]
		if p, e := gauss.Mul(a, b); e != want || !is(p, 0) {
			t.Errorf("1.2: Mul(%v, %v): %v, %d", a, b, p, e)
		}
		if q, r, e := gauss.Div(a, b); e != want || !is(q, 0) || !is(r, 0) {
			t.Errorf("1.4: Div(%v, %v): %v, %v, %d", a, b, q, r, e)
		}
		if gauss.Less(a, b) {
			t.Errorf("1.3: Less(%v, %v)", a, b)
		}
	}
}

func TestRefusals(t *testing.T) {
	for _, z := range notWhole() {
		if n, e := gauss.Norm(z); e != api.ErrForm || n != 0 {
			t.Errorf("1.2: Norm(%v): %d, %d", z, n, e)
		}
		for _, w := range []complex128{0, 1 - 2i, small, small + 1, whole, z} {
			refusals(t, z, w, api.ErrForm)
		}
	}
	for _, z := range notSmall() {
		if n, e := gauss.Norm(z); e != api.ErrRange || n != 0 {
			t.Errorf("1.2: Norm(%v): %d, %d", z, n, e)
		}
		for _, w := range []complex128{0, 1 - 2i, small, z} {
			refusals(t, z, w, api.ErrRange)
		}
	}
}

func TestLess(t *testing.T) {
	up := []complex128{0, -1, -1i, 1i, 1, -1 - 1i, -1 + 1i, 1 - 1i, 1 + 1i, -2, -2i, 2i, 2, -5, -4 - 3i, -4 + 3i, -3 - 4i, -3 + 4i, -5i, 5i, 3 - 4i, 3 + 4i, 4 - 3i, 4 + 3i, 5, small - 1, -small, -small * 1i, small * 1i, small, -small - small*1i, small + small*1i}
	for i, a := range up {
		for j, b := range up {
			if gauss.Less(a, b) != (i < j) {
				t.Errorf("1.3: Less(%v, %v): %v", a, b, i >= j)
			}
		}
	}
	zeros := []complex128{0, complex(minusZero, 0), complex(0, minusZero), complex(minusZero, minusZero)}
	for _, a := range zeros {
		for _, b := range zeros {
			if gauss.Less(a, b) {
				t.Errorf("1.3: Less(%v, %v)", a, b)
			}
		}
		if !gauss.Less(a+complex(minusZero, -3), complex(minusZero, 3)) {
			t.Errorf("1.3: Less(-3i, 3i) beside %v", a)
		}
	}
}

func TestDiv(t *testing.T) {
	rows := []struct{ a, b, q, r complex128 }{
		{5 + 5i, 2, 3 + 3i, -1 - 1i},
		{7, 2, 4, -1}, {-7, 2, -3, -1}, {1, 2, 1, -1}, {-1, 2, 0, -1}, {-3, 2, -1, -1}, {3, -2, -1, 1},
		{7i, 2, 4i, -1i}, {-7i, 2, -3i, -1i}, {-1i, 2, 0, -1i},
		{1, 1 + 1i, 1, -1i}, {-1, 1 + 1i, 1i, -1i}, {1i, 1 - 1i, 1i, -1},
		{10, 3, 3, 1}, {-10, 3, -3, -1}, {11, 3, 4, -1}, {-11, 3, -4, 1},
		{0, 5 - 2i, 0, 0}, {complex(minusZero, minusZero), 3, 0, 0}, {1, small, 0, 1}, {-1i, small, 0, -1i},
		{small, 1, small, 0}, {small + small*1i, 1 - 1i, small * 1i, 0}, {-small, -1i, -small * 1i, 0},
		{small / 2, small, 1, -small / 2}, {-small / 2, small, 0, -small / 2},
		{small - 1, small - 1, 1, 0}, {small / 2, small - 1, 1, -small/2 + 1}, {small/2 - 1, small - 1, 0, small/2 - 1},
	}
	for _, c := range rows {
		q, r, e := gauss.Div(c.a, c.b)
		if e != api.OK || !is(q, c.q) || !is(r, c.r) {
			t.Errorf("1.4: Div(%v, %v): %v, %v, %d", c.a, c.b, q, r, e)
		}
	}
	for _, b := range []complex128{0, complex(minusZero, 0), complex(minusZero, minusZero)} {
		for _, a := range []complex128{0, 1, small - 5i} {
			if q, r, e := gauss.Div(a, b); e != api.ErrArg || !is(q, 0) || !is(r, 0) {
				t.Errorf("1.4: Div(%v, %v): %v, %v, %d", a, b, q, r, e)
			}
		}
	}
}

// nearest is what 1.4 asks of one part, in whole numbers of any size: p over n, rounded, of two the greater one.
func nearest(p, n int64) float64 {
	doubled := new(big.Int).Add(new(big.Int).Mul(big.NewInt(2), big.NewInt(p)), big.NewInt(n))
	q := new(big.Int).Div(doubled, big.NewInt(2*n)) // Euclid's: for a divisor above 0 the floor
	return float64(q.Int64())
}

func checkDiv(t *testing.T, a, b complex128) {
	t.Helper()
	x, y, u, v := int64(real(a)), int64(imag(a)), int64(real(b)), int64(imag(b))
	n := u*u + v*v
	want := complex(nearest(x*u+y*v, n), nearest(y*u-x*v, n))
	q, r, e := gauss.Div(a, b)
	if e != api.OK || !is(q, want) {
		t.Fatalf("1.4: Div(%v, %v): %v, %d, not %v", a, b, q, e, want)
	}
	qr, qi, rr, ri := int64(real(q)), int64(imag(q)), int64(real(r)), int64(imag(r))
	if hasMinusZero(r) || qr*u-qi*v+rr != x || qr*v+qi*u+ri != y {
		t.Fatalf("1.4: Div(%v, %v): %v, %v are not a together", a, b, q, r)
	}
	if 2*(rr*rr+ri*ri) > n {
		t.Fatalf("1.5: Div(%v, %v): %v is more than half", a, b, r)
	}
}

func TestDivHolds(t *testing.T) {
	for _, l := range [][]complex128{grid(6), greatOnes()} {
		for _, a := range l {
			for _, b := range append(grid(3), greatOnes()...) {
				if b != 0 {
					checkDiv(t, a, b)
				}
			}
		}
	}
}

// both is a call of two numbers: Add or Mul.
type both func(a, b complex128) (complex128, api.Errno)

// checkOrderAndGrouping holds f(a, b) against f(b, a), and f(f(a, b), c) against f(a, f(b, c)).
func checkOrderAndGrouping(t *testing.T, name string, f both, a, b, c complex128) {
	t.Helper()
	ab, e := f(a, b)
	ba, e2 := f(b, a)
	if e != api.OK || e2 != api.OK || ab != ba {
		t.Fatalf("1.5: %s(%v, %v): %v, %d; the other way %v, %d", name, a, b, ab, e, ba, e2)
	}
	bc, _ := f(b, c)
	left, e := f(ab, c)
	right, e2 := f(a, bc)
	if e != api.OK || e2 != api.OK || !is(left, right) || hasMinusZero(right) {
		t.Fatalf("1.5: %s of %v, %v, %v: %v, %d and %v, %d", name, a, b, c, left, e, right, e2)
	}
}

func TestAddAndMulHold(t *testing.T) {
	l := append(grid(2), 250-249i, -256i, 255+255i)
	for _, a := range l {
		for _, b := range l {
			for _, c := range l {
				checkOrderAndGrouping(t, "Add", gauss.Add, a, b, c)
				checkOrderAndGrouping(t, "Mul", gauss.Mul, a, b, c)
				sum, _ := gauss.Add(b, c)
				left, _ := gauss.Mul(a, sum)
				ab, _ := gauss.Mul(a, b)
				ac, _ := gauss.Mul(a, c)
				if right, e := gauss.Add(ab, ac); e != api.OK || left != right {
					t.Fatalf("1.5: %v times the sum of %v, %v: %v, %v", a, b, c, left, right)
				}
			}
		}
	}
}

func TestAddHoldsAtTheEdge(t *testing.T) {
	quarter := complex128(whole/4 + whole/4*1i)
	checkOrderAndGrouping(t, "Add", gauss.Add, quarter+1, quarter-1i, 2*quarter-1+1i)
	checkOrderAndGrouping(t, "Add", gauss.Add, whole-1, 1, -whole)
}

func TestNormOfProducts(t *testing.T) {
	l := append(grid(4), 4096-4095i, -2897+2895i, 4096)
	for _, a := range l {
		for _, b := range l {
			z, _ := gauss.Mul(a, b)
			m, _ := gauss.Norm(a)
			n, _ := gauss.Norm(b)
			product, e := gauss.Norm(z)
			if math.Abs(real(z)) > small || math.Abs(imag(z)) > small {
				continue
			}
			if e != api.OK || product != m*n {
				t.Fatalf("1.5: Norm(%v): %d, %d, not %d", z, product, e, m*n)
			}
		}
	}
}

func TestLessIsAnOrder(t *testing.T) {
	l := append(grid(2), 5, -5i, 3+4i, small, -small)
	for _, a := range l {
		for _, b := range l {
			if forth, back := gauss.Less(a, b), gauss.Less(b, a); forth && back || forth == back && a != b {
				t.Fatalf("1.5: Less of %v, %v: %v, %v", a, b, forth, back)
			}
			for _, c := range l {
				if gauss.Less(a, b) && gauss.Less(b, c) && !gauss.Less(a, c) {
					t.Fatalf("1.5: Less of %v, %v, %v", a, b, c)
				}
			}
		}
	}
}
