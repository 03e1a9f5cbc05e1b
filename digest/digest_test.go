package digest_test

import (
	"bytes"
	"encoding/binary"
	"math"
	"math/rand"
	"testing"

	"demesne/api"
	"demesne/digest"
)

const (
	wholeMost = 1 << 52
	halfMost  = 1<<32 - 1
	allOnes   = 1<<64 - 1
)

var minusZero = math.Copysign(0, -1)

// is holds a sum against another one, and holds a -0 in got for wrong.
func is(got, want complex128) bool {
	return got == want && !hasMinusZero(got)
}

func hasMinusZero(z complex128) bool {
	return real(z) == 0 && math.Signbit(real(z)) || imag(z) == 0 && math.Signbit(imag(z))
}

// edgeWords are words of all kinds, the least and the greatest halves among them.
func edgeWords() []uint64 {
	var l []uint64
	halves := []uint64{0, 1, 2, 5, 1 << 8, 1<<24 + 1, 1<<31 - 1, 1 << 31, halfMost - 1, halfMost}
	for _, low := range halves {
		for _, high := range halves {
			l = append(l, high<<32|low)
		}
	}
	return l
}

// turned is what w adds to a page's sum at k, in plain ints.
func turned(w uint64, k int) (re, im int) {
	low, high := int(w%(1<<32)), int(w/(1<<32))
	switch k % 4 {
	case 1:
		return -high, low
	case 2:
		return -low, -high
	case 3:
		return high, -low
	}
	return low, high
}

// sumOf is the sum that a page of these words must have.
func sumOf(words *[api.Words]uint64) complex128 {
	re, im := 0, 0
	for k, w := range words {
		a, b := turned(w, k)
		re, im = re+a, im+b
	}
	return complex(float64(re), float64(im))
}

// pageOf is the words as bytes, the lowest first.
func pageOf(words *[api.Words]uint64) []byte {
	var page []byte
	for _, w := range words {
		page = binary.LittleEndian.AppendUint64(page, w)
	}
	return page
}

func randomWords(from *rand.Rand) *[api.Words]uint64 {
	var words [api.Words]uint64
	for k := range words {
		words[k] = from.Uint64()
	}
	return &words
}

func checkOf(t *testing.T, promise string, words *[api.Words]uint64) {
	t.Helper()
	want := sumOf(words)
	if got, e := digest.Of(pageOf(words)); !is(got, want) || e != api.OK {
		t.Errorf("%s: Of: %v, %d, want %v", promise, got, e, want)
	}
}

func TestWord(t *testing.T) {
	for _, c := range []struct {
		word uint64
		want complex128
	}{
		{0, 0},
		{5, 5},
		{halfMost, halfMost},
		{1 << 32, 1i},
		{0x0000000300000005, 5 + 3i},
		{0x8000000080000001, complex(1<<31+1, 1<<31)},
		{halfMost << 32, complex(0, halfMost)},
		{allOnes, complex(halfMost, halfMost)},
	} {
		if got := digest.Word(c.word); !is(got, c.want) {
			t.Errorf("3.1: Word(%#x): %v, want %v", c.word, got, c.want)
		}
	}
	for _, w := range edgeWords() {
		re, im := turned(w, 0)
		if got := digest.Word(w); !is(got, complex(float64(re), float64(im))) {
			t.Errorf("3.1: Word(%#x): %v", w, got)
		}
	}
}

func TestOfExamples(t *testing.T) {
	for _, c := range []struct {
		k    int
		word uint64
		want complex128
	}{
		{0, 0, 0},
		{1, 5, 5i},
		{2, 1 << 32, -1i},
		{3, 1 << 32, 1},
		{511, 7, -7i},
		{511, allOnes, complex(halfMost, -halfMost)},
	} {
		var words [api.Words]uint64
		words[c.k] = c.word
		if got, e := digest.Of(pageOf(&words)); !is(got, c.want) || e != api.OK {
			t.Errorf("3.1: word %d being %#x: %v, %d, want %v", c.k, c.word, got, e, c.want)
		}
	}
}

func TestOfOneByte(t *testing.T) {
	for at := range api.FrameSize {
		page := make([]byte, api.FrameSize)
		page[at] = byte(at%255 + 1)
		re, im := turned(uint64(page[at])<<(at%8*8), at/8)
		want := complex(float64(re), float64(im))
		if got, e := digest.Of(page); !is(got, want) || e != api.OK {
			t.Errorf("3.1: byte %d being %d: %v, %d, want %v", at, page[at], got, e, want)
		}
	}
}

func TestOfOneWord(t *testing.T) {
	for k := range api.Words {
		for _, w := range edgeWords()[k%7:] {
			var words [api.Words]uint64
			words[k] = w
			checkOf(t, "3.1", &words)
		}
	}
}

func TestOfFullPages(t *testing.T) {
	from := rand.New(rand.NewSource(3))
	for range 50 {
		checkOf(t, "3.1", randomWords(from))
	}
	// The farthest sums that pages have: all words of one turn, or of two, at their most.
	for turns := range 16 {
		for _, w := range []uint64{halfMost, halfMost << 32, allOnes} {
			var words [api.Words]uint64
			for k := range words {
				if turns>>(k%4)&1 == 1 {
					words[k] = w
				}
			}
			checkOf(t, "3.1", &words)
		}
	}
}

func TestOfRefuses(t *testing.T) {
	ones := bytes.Repeat([]byte{1}, 2*api.FrameSize)
	for _, n := range []int{0, 1, 7, 8, 511, 512, 4088, 4095, 4097, 4104, 8192} {
		if got, e := digest.Of(ones[:n]); !is(got, 0) || e != api.ErrArg {
			t.Errorf("3.1: Of %d bytes: %v, %d", n, got, e)
		}
	}
	if got, e := digest.Of(nil); !is(got, 0) || e != api.ErrArg {
		t.Errorf("3.1: Of nil: %v, %d", got, e)
	}
}

func TestOfLeavesThePage(t *testing.T) {
	page := pageOf(randomWords(rand.New(rand.NewSource(4))))
	before := bytes.Clone(page)
	digest.Of(page)
	if !bytes.Equal(page, before) {
		t.Error("3.1: Of changed its page")
	}
}

func TestChange(t *testing.T) {
	for _, c := range []struct {
		z        complex128
		k        int
		old, now uint64
		want     complex128
	}{
		{0, 0, 0, 0, 0},
		{0, 1, 0, 5, 5i},
		{5i, 1, 5, 0, 0},
		{0, 2, 0, 1 << 32, -1i},
		{3 + 4i, 0, 3, 1<<32 | 1, 1 + 5i},
		{3 + 4i, 3, 2, 2, 3 + 4i},
		{1 - 1i, 511, allOnes, 0, complex(1-halfMost, -1+halfMost)},
		{1 - 1i, 511, 0, allOnes, complex(1+halfMost, -1-halfMost)},
		{complex(minusZero, minusZero), 0, 0, 0, 0},
		{complex(minusZero, 3), 2, 9, 9, 3i},
		{complex(-wholeMost, wholeMost), 4, 0, halfMost, complex(halfMost-wholeMost, wholeMost)},
	} {
		if got, e := digest.Change(c.z, c.k, c.old, c.now); !is(got, c.want) || e != api.OK {
			t.Errorf("3.2: Change(%v, %d, %#x, %#x): %v, %d, want %v", c.z, c.k, c.old, c.now, got, e, c.want)
		}
	}
}

func TestChangeOfEdgeWords(t *testing.T) {
	for k := range 8 {
		for _, z := range []complex128{0, 1 - 2i, -1 << 41, complex(0, 1<<51)} {
			for _, old := range edgeWords() {
				for _, now := range edgeWords() {
					a, b := turned(old, k)
					c, d := turned(now, k)
					want := z + complex(float64(c-a), float64(d-b))
					if got, e := digest.Change(z, k, old, now); !is(got, want) || e != api.OK {
						t.Fatalf("3.2: Change(%v, %d, %#x, %#x): %v, %d, want %v", z, k, old, now, got, e, want)
					}
				}
			}
		}
	}
}

func TestChangeRefusesPlaces(t *testing.T) {
	for _, k := range []int{-1, -4, -512, 512, 513, 1024, 1 << 62, math.MaxInt, math.MinInt} {
		// A wrong place goes before a wrong sum, and both go before a sum too far.
		for _, z := range []complex128{0, 1, 0.5, wholeMost, complex(math.NaN(), 0)} {
			if got, e := digest.Change(z, k, 0, 1); !is(got, 0) || e != api.ErrArg {
				t.Errorf("3.2: Change(%v, %d, 0, 1): %v, %d", z, k, got, e)
			}
		}
	}
}

func TestChangeRefusesForms(t *testing.T) {
	nan, inf := math.NaN(), math.Inf(1)
	for _, x := range []float64{nan, inf, -inf, 0.5, -1.5, wholeMost + 1, -wholeMost - 1, 1 << 63, math.MaxFloat64, math.SmallestNonzeroFloat64} {
		for _, z := range []complex128{complex(x, 0), complex(0, x), complex(x, x), complex(x, wholeMost)} {
			for _, k := range []int{0, 1, 2, 3, 511} {
				// Words that would bring a sum just too far back among the whole ones, too.
				for _, w := range [][2]uint64{{0, 0}, {0, 1}, {5, 0}, {allOnes, 0}, {0, allOnes}} {
					if got, e := digest.Change(z, k, w[0], w[1]); !is(got, 0) || e != api.ErrForm {
						t.Errorf("3.2: Change(%v, %d, %#x, %#x): %v, %d", z, k, w[0], w[1], got, e)
					}
				}
			}
		}
	}
}

func TestChangeAtTheFarthest(t *testing.T) {
	const low, high = 1, 1 << 32
	for _, c := range []struct {
		z        complex128
		k        int
		old, now uint64
	}{
		{wholeMost, 0, 0, low},
		{-wholeMost, 0, low, 0},
		{wholeMost * 1i, 1, 0, low},
		{-wholeMost, 1, 0, high},
		{wholeMost, 2, low, 0},
		{-wholeMost * 1i, 2, 0, high},
		{wholeMost, 3, 0, high},
		{-wholeMost * 1i, 511, 0, low},
		{complex(wholeMost-halfMost+1, 0), 0, 0, halfMost},
		{complex(0, halfMost-1-wholeMost), 0, halfMost << 32, 0},
		{wholeMost, 0, high, low},
	} {
		if got, e := digest.Change(c.z, c.k, c.old, c.now); !is(got, 0) || e != api.ErrRange {
			t.Errorf("3.2: Change(%v, %d, %#x, %#x): %v, %d", c.z, c.k, c.old, c.now, got, e)
		}
		// What comes and goes leaves z where it is, though either alone would lead it too far.
		if got, e := digest.Change(c.z, c.k, allOnes, allOnes); !is(got, c.z) || e != api.OK {
			t.Errorf("3.2: Change(%v, %d) of nothing: %v, %d", c.z, c.k, got, e)
		}
	}
	if got, e := digest.Change(complex(wholeMost-halfMost, 0), 0, 0, halfMost); !is(got, wholeMost) || e != api.OK {
		t.Errorf("3.2: Change up to the most: %v, %d", got, e)
	}
	if got, e := digest.Change(complex(0, halfMost-wholeMost), 2, 0, halfMost<<32); !is(got, -wholeMost*1i) || e != api.OK {
		t.Errorf("3.2: Change down to the least: %v, %d", got, e)
	}
}

func TestAlikePagesHaveOneSum(t *testing.T) {
	from := rand.New(rand.NewSource(5))
	sums := map[complex128]bool{}
	for range 20 {
		words := randomWords(from)
		a, _ := digest.Of(pageOf(words))
		b, _ := digest.Of(pageOf(words))
		sums[a] = true
		if a != b || !sums[b] {
			t.Errorf("3.3: %v and %v of alike pages", a, b)
		}
	}
	if len(sums) != 20 {
		t.Errorf("3.3: %d sums of 20 pages that differ at random", len(sums))
	}
}

func TestUnlikePagesOfOneSum(t *testing.T) {
	for k := range api.Words - 4 {
		var words [api.Words]uint64
		words[k+4] = 12
		before, _ := digest.Of(pageOf(&words))
		words[k], words[k+4] = 5, 7
		if after, _ := digest.Of(pageOf(&words)); after != before {
			t.Errorf("3.3: 5 more at %d and 5 less at %d: %v, not %v", k, k+4, after, before)
		}
	}
}

func TestChangeFollowsAPage(t *testing.T) {
	from := rand.New(rand.NewSource(6))
	words := randomWords(from)
	edges := edgeWords()
	z, _ := digest.Of(pageOf(words))
	for step := range 2000 {
		k, now := from.Intn(api.Words), from.Uint64()
		if step%3 == 0 {
			now = edges[from.Intn(len(edges))]
		}
		var e api.Errno
		if z, e = digest.Change(z, k, words[k], now); e != api.OK {
			t.Fatalf("3.3: step %d: %d", step, e)
		}
		words[k] = now
		if want, _ := digest.Of(pageOf(words)); !is(z, want) {
			t.Fatalf("3.3: step %d: %v, not %v", step, z, want)
		}
	}
	for k, old := range words {
		z, _ = digest.Change(z, k, old, 0)
	}
	if !is(z, 0) {
		t.Errorf("3.3: %v of a page that has become noughts", z)
	}
}
