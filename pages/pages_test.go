package pages_test

import (
	"math"
	"slices"
	"testing"

	"demesne/api"
	"demesne/heat"
	"demesne/pages"
)

const end = 1 << 28 // the pages are below

var minusZero = math.Copysign(0, -1)

// edgePages rise.
var edgePages = []uint64{0, 1, 2, 5, 511, 512, 513, 4096, 1 << 20, 1 << 27, end - 512, end - 2, end - 1}

// noPages are beyond, those among them whose low bits are a page's.
var noPages = []uint64{end, end + 1, end + 5, 1 << 29, 1 << 31, 1 << 32, 1<<32 + 5, 1 << 40, 1<<63 - 1, 1 << 63, 1<<63 + 5, math.MaxUint64 - 1, math.MaxUint64}

// kinds are those of records; Absent is none's.
var kinds = []int{api.Own, api.Offered, api.Shared, api.Swapped, api.Borrowed}

var noKinds = []int{-1, -2, -5, 6, 7, 255, 256, 1 << 32, 1<<32 + 1, -1<<32 + 1, math.MinInt, math.MinInt + 1, math.MaxInt}

var edgeAts = []int{0, 1, 9, 4095, 4096, api.MaxFrames - 1, api.MaxFrames, 1 << 32, math.MaxInt}

var noAts = []int{-1, -2, -9, -1 << 32, -1<<32 + 9, math.MinInt, math.MinInt + 9}

var rightHeats = []complex128{0, 1, 1i, 2 + 5i, 5 + 2i, api.MaxHeat, api.MaxHeat * 1i, api.MaxHeat + api.MaxHeat*1i, api.MaxHeat - 1}

func wrongHeats() []complex128 {
	nan, inf := math.NaN(), math.Inf(1)
	return []complex128{-1, -1i, 2 - 1i, -1 + 2i, 0.5, 3 + 0.5i, api.MaxHeat + 1, 3 + (api.MaxHeat+1)*1i, complex(nan, 0), complex(0, nan), complex(nan, nan), complex(inf, 1), complex(1, -inf), complex(1<<60, 0)}
}

// hasMinusZero tells what == does not.
func hasMinusZero(z complex128) bool {
	return real(z) == 0 && math.Signbit(real(z)) || imag(z) == 0 && math.Signbit(imag(z))
}

func own(at int) api.Rec { return api.Rec{Kind: api.Own, At: at} }

func set(t *testing.T, p *pages.Pages, page uint64, r api.Rec) {
	t.Helper()
	if e := p.Set(page, r); e != api.OK {
		t.Fatalf("18.1: Set(%d, %+v): %d", page, r, e)
	}
}

// is fails the test if the page's record is another one.
func is(t *testing.T, p *pages.Pages, page uint64, want api.Rec) {
	t.Helper()
	if r := p.Get(page); r != want || hasMinusZero(r.Heat) {
		t.Fatalf("18.1: Get(%d): %+v; want %+v", page, r, want)
	}
}

// are fails the test if there are not just these records: it asks of them, of their neighbours, and of what is at the edges and beyond.
func are(t *testing.T, p *pages.Pages, want map[uint64]api.Rec) {
	t.Helper()
	var list []uint64
	byKind := map[int]int{}
	for page, r := range want {
		list = append(list, page)
		byKind[r.Kind]++
	}
	slices.Sort(list)
	if l := p.List(); !slices.Equal(l, list) {
		t.Fatalf("18.2: List: %v; want %v", l, list)
	}
	for _, kind := range slices.Concat([]int{api.Absent}, kinds, noKinds) {
		if n := p.Count(kind); n != byKind[kind] {
			t.Fatalf("18.2: Count(%d): %d; want %d", kind, n, byKind[kind])
		}
	}
	for _, page := range slices.Concat(list, edgePages, noPages) {
		is(t, p, page, want[page])
		is(t, p, page+1, want[page+1])
		is(t, p, page-1, want[page-1])
	}
}

func TestNew(t *testing.T) {
	are(t, pages.New(), nil)
	p := pages.New()
	p.Fade()
	for _, page := range slices.Concat(edgePages, noPages) {
		if p.Touch(page, true) || p.Touch(page, false) {
			t.Errorf("18.2: Touch(%d) of none: true", page)
		}
	}
	are(t, p, nil)
}

// TestSet: every record that may be, alone and in place of another one.
func TestSet(t *testing.T) {
	for i, page := range edgePages {
		p := pages.New()
		other := edgePages[(i+1)%len(edgePages)]
		set(t, p, other, own(77))
		for _, kind := range kinds {
			for j, at := range edgeAts {
				for _, write := range []bool{false, true} {
					r := api.Rec{Kind: kind, At: at, Write: write, Heat: rightHeats[(j+kind)%len(rightHeats)]}
					set(t, p, page, r)
					are(t, p, map[uint64]api.Rec{page: r, other: own(77)})
				}
			}
		}
	}
}

func TestSetHeat(t *testing.T) {
	p := pages.New()
	for _, kind := range kinds {
		r := api.Rec{Kind: kind, At: 3, Write: true}
		for _, z := range rightHeats {
			given := r
			given.Heat = z
			set(t, p, 5, given)
			is(t, p, 5, given)
		}
		for _, z := range wrongHeats() {
			set(t, p, 5, api.Rec{Kind: kind, At: 9, Heat: 4 + 4i})
			given := r
			given.Heat = z
			set(t, p, 5, given)
			is(t, p, 5, r)
		}
	}
}

// TestSetKeepsTheSignOfZeroAway: a part that is -0 is as right as 0, and is not told as it came.
func TestSetKeepsTheSignOfZeroAway(t *testing.T) {
	p := pages.New()
	for _, c := range []struct{ given, want complex128 }{
		{complex(minusZero, 0), 0}, {complex(0, minusZero), 0}, {complex(minusZero, minusZero), 0},
		{complex(minusZero, 7), 7i}, {complex(7, minusZero), 7}, {complex(minusZero, api.MaxHeat), api.MaxHeat * 1i},
		{complex(minusZero, -1), 0}, {complex(math.NaN(), minusZero), 0},
	} {
		set(t, p, 5, api.Rec{Kind: api.Own, At: 9, Heat: c.given})
		is(t, p, 5, api.Rec{Kind: api.Own, At: 9, Heat: c.want})
	}
}

// TestSetAbsent: nothing is left of the record, and what else was handed in stays nowhere.
func TestSetAbsent(t *testing.T) {
	for _, page := range edgePages {
		for _, none := range []api.Rec{{}, {At: 4}, {Write: true}, {Heat: 3 + 1i}, {At: math.MaxInt, Write: true, Heat: complex(math.NaN(), -1)}} {
			p := pages.New()
			set(t, p, page, none)
			are(t, p, nil)
			set(t, p, page, api.Rec{Kind: api.Borrowed, At: 8, Write: true, Heat: 6 + 6i})
			set(t, p, page^1, own(1))
			set(t, p, page, none)
			are(t, p, map[uint64]api.Rec{page ^ 1: own(1)})
			if p.Touch(page, true) {
				t.Errorf("18.2: Touch(%d) behind Absent: true", page)
			}
			set(t, p, page, own(2))
			are(t, p, map[uint64]api.Rec{page ^ 1: own(1), page: own(2)})
		}
	}
}

// refused fails the test if Set answers anything but e, or changes anything.
func refused(t *testing.T, page uint64, r api.Rec, e api.Errno) {
	t.Helper()
	p := pages.New()
	before := map[uint64]api.Rec{0: own(0), 5: {Kind: api.Borrowed, At: 9, Write: true, Heat: 2 + 5i}, end - 1: {Kind: api.Swapped}}
	for page, r := range before {
		set(t, p, page, r)
	}
	if got := p.Set(page, r); got != e {
		t.Fatalf("18.1: Set(%d, %+v): %d; want %d", page, r, got, e)
	}
	are(t, p, before)
}

func TestSetBeyond(t *testing.T) {
	for _, page := range noPages {
		for _, kind := range slices.Concat([]int{api.Absent}, kinds) {
			refused(t, page, api.Rec{Kind: kind}, api.ErrRange)
		}
		refused(t, page, api.Rec{Kind: 6}, api.ErrRange)
		refused(t, page, api.Rec{Kind: -1, At: -1}, api.ErrRange)
		refused(t, page, own(-1), api.ErrRange)
		refused(t, page, api.Rec{At: -1}, api.ErrRange)
	}
}

func TestSetArg(t *testing.T) {
	for _, page := range []uint64{0, 5, 6, end - 2, end - 1} {
		for _, kind := range noKinds {
			refused(t, page, api.Rec{Kind: kind}, api.ErrArg)
			refused(t, page, api.Rec{Kind: kind, At: 9, Write: true, Heat: 1}, api.ErrArg)
			refused(t, page, api.Rec{Kind: kind, At: -1}, api.ErrArg)
		}
		for _, at := range noAts {
			for _, kind := range slices.Concat([]int{api.Absent}, kinds) {
				refused(t, page, api.Rec{Kind: kind, At: at}, api.ErrArg)
				refused(t, page, api.Rec{Kind: kind, At: at, Heat: -1}, api.ErrArg)
			}
		}
	}
}

// TestTouch: the heat alone is another one, and that page's alone.
func TestTouch(t *testing.T) {
	for _, page := range edgePages {
		for _, kind := range kinds {
			for _, z := range rightHeats {
				for _, store := range []bool{false, true} {
					p := pages.New()
					r := api.Rec{Kind: kind, At: 9, Write: store, Heat: z}
					set(t, p, page, r)
					set(t, p, page^1, r)
					if !p.Touch(page, store) {
						t.Fatalf("18.2: Touch(%d, %v): false", page, store)
					}
					touched := r
					touched.Heat = heat.Touch(z, store)
					is(t, p, page, touched)
					is(t, p, page^1, r)
				}
			}
		}
	}
}

func TestTouchNone(t *testing.T) {
	p := pages.New()
	want := map[uint64]api.Rec{5: own(9), end - 1: {Kind: api.Shared, At: 3, Heat: 1}}
	set(t, p, 5, want[5])
	set(t, p, end-1, want[end-1])
	for _, page := range slices.Concat(edgePages, noPages) {
		if _, has := want[page]; !has && (p.Touch(page, true) || p.Touch(page, false)) {
			t.Errorf("18.2: Touch(%d): true", page)
		}
	}
	are(t, p, want)
}

// TestTouchMost: a heat's parts are MaxHeat at most, each by itself.
func TestTouchMost(t *testing.T) {
	p := pages.New()
	set(t, p, 5, api.Rec{Kind: api.Own, Heat: api.MaxHeat - 1})
	for _, want := range []complex128{api.MaxHeat, api.MaxHeat, api.MaxHeat} {
		p.Touch(5, false)
		is(t, p, 5, api.Rec{Kind: api.Own, Heat: want})
	}
	p.Touch(5, true)
	is(t, p, 5, api.Rec{Kind: api.Own, Heat: api.MaxHeat + 1i})
}

// TestFade: each page's heat fades, whatever its Kind, and nothing else changes.
func TestFade(t *testing.T) {
	p, want := pages.New(), map[uint64]api.Rec{}
	for i, page := range edgePages {
		for j, z := range rightHeats {
			at := (page + uint64(j)<<9) % end
			r := api.Rec{Kind: kinds[(i+j)%len(kinds)], At: i, Write: j%2 == 0, Heat: z}
			set(t, p, at, r)
			want[at] = r
		}
	}
	for range 22 {
		p.Fade()
		for page, r := range want {
			r.Heat = heat.Fade(r.Heat)
			want[page] = r
		}
		are(t, p, want)
	}
	for _, page := range p.List() {
		if z := p.Get(page).Heat; z != 0 {
			t.Errorf("18.2: behind 22 fades the page %d has the heat %v", page, z)
		}
	}
}

// TestSetIsGot: neither what is set elsewhere nor touches and fades change more of a record than its heat, which follows them.
func TestSetIsGot(t *testing.T) {
	p, want := pages.New(), map[uint64]api.Rec{}
	for i, page := range edgePages {
		want[page] = api.Rec{Kind: kinds[i%len(kinds)], At: edgeAts[i%len(edgeAts)], Write: i%2 == 0}
		set(t, p, page, want[page])
	}
	for i, page := range edgePages {
		for range i {
			p.Touch(page, false)
		}
		p.Touch(page, true)
		r := want[page]
		r.Heat = complex(float64(i), 1)
		want[page] = r
	}
	are(t, p, want)
	p.Fade()
	for i, page := range edgePages {
		r := want[page]
		r.Heat = complex(float64(i/2), 0)
		want[page] = r
	}
	are(t, p, want)
	set(t, p, 5, own(1))
	want[5] = own(1)
	are(t, p, want)
}

// TestListApart: a list that was told is its caller's, its spare room too, and does not follow what comes.
func TestListApart(t *testing.T) {
	p, want := pages.New(), map[uint64]api.Rec{}
	for _, page := range edgePages {
		set(t, p, page, own(1))
		want[page] = own(1)
	}
	first, second := p.List(), p.List()
	first = first[:cap(first)]
	for i := range first {
		first[i] = 99
	}
	are(t, p, want)
	set(t, p, 5, api.Rec{})
	set(t, p, 6, own(2))
	if !slices.Equal(second, edgePages) {
		t.Errorf("18.2: a told list changed: %v", second)
	}
}

// TestApart: what one guest's pages are given another one's do not know of.
func TestApart(t *testing.T) {
	p, q := pages.New(), pages.New()
	set(t, p, 5, own(9))
	are(t, q, nil)
	if q.Touch(5, true) {
		t.Error("18.2: Touch of another guest's page: true")
	}
	set(t, q, 5, api.Rec{Kind: api.Swapped, At: 1, Heat: 8})
	set(t, q, 6, own(1))
	q.Fade()
	are(t, p, map[uint64]api.Rec{5: own(9)})
	set(t, q, 5, api.Rec{})
	are(t, p, map[uint64]api.Rec{5: own(9)})
	are(t, q, map[uint64]api.Rec{6: own(1)})
}

func TestExample(t *testing.T) {
	p := pages.New()
	set(t, p, 5, own(9))
	if !p.Touch(5, true) {
		t.Error("18.2: Touch(5, true): false")
	}
	is(t, p, 5, api.Rec{Kind: api.Own, At: 9, Write: false, Heat: 1i})
}
