package host_test

import (
	"math"
	"slices"
	"testing"

	"demesne/api"
	"demesne/host"
)

// noFrames are numbers that are no frame's, those among them whose low bits are.
var noFrames = []int{-1, -2, -5, -4096, -1 << 20, -1 << 32, -1<<32 + 5, math.MinInt, math.MinInt + 1, math.MinInt + 5}

var edgeFrames = []int{0, 1, 2, 5, 4095, 4096, 1<<20 - 1, 1 << 20, 1<<31 - 1, 1 << 31, 1 << 32, 1<<32 + 5, math.MaxInt - 1, math.MaxInt}

// noPages are numbers that no page of few pages has, those among them whose low bits one has.
var noPages = []int{0, -1, -2, 100, api.MaxHost, api.MaxHost + 1, api.MaxHost + 2, 1<<32 + 1, 1<<32 + 2, -1<<32 + 1, math.MinInt, math.MinInt + 1, math.MaxInt}

// edgePlaces are any places: the book does not ask whether there is such a guest or page.
var edgePlaces = []api.Place{
	{}, {Guest: 1}, {Page: 1}, {Guest: 2, Page: 7}, {Guest: 7, Page: 2}, {Guest: -1, Page: math.MaxUint64},
	{Guest: api.MaxGuests, Page: 1<<28 - 1}, {Guest: api.MaxGuests + 1, Page: 1 << 28}, {Guest: math.MinInt, Page: 1 << 63}, {Guest: math.MaxInt, Page: 1 << 32},
}

// add adds pages in these frames; the first one's number is to be first.
func add(t *testing.T, b *host.Book, first int, frames ...int) {
	t.Helper()
	for i, frame := range frames {
		if h, e := b.Add(frame); h != first+i || e != api.OK {
			t.Fatalf("21.1: Add(%d): %d, %d; want %d", frame, h, e, first+i)
		}
	}
}

func lend(t *testing.T, b *host.Book, h int, to api.Place) {
	t.Helper()
	if e := b.Lend(h, to); e != api.OK {
		t.Fatalf("21.2: Lend(%d, %v): %d", h, to, e)
	}
}

func back(t *testing.T, b *host.Book, h int) {
	t.Helper()
	if e := b.Back(h); e != api.OK {
		t.Fatalf("21.2: Back(%d): %d", h, e)
	}
}

func drop(t *testing.T, b *host.Book, h, frame int) {
	t.Helper()
	if f, e := b.Drop(h); f != frame || e != api.OK {
		t.Fatalf("21.2: Drop(%d): %d, %d; want %d", h, f, e, frame)
	}
}

// owned fails the test if the page isn't there, in that frame and lent to nobody.
func owned(t *testing.T, b *host.Book, h, frame int) {
	t.Helper()
	inFrame(t, b, h, frame)
	if to, lent := b.Lent(h); lent || to != (api.Place{}) {
		t.Fatalf("21.2: Lent(%d): %v, %v", h, to, lent)
	}
}

// lent fails the test if the page isn't there, in that frame and lent to that place.
func lent(t *testing.T, b *host.Book, h, frame int, want api.Place) {
	t.Helper()
	inFrame(t, b, h, frame)
	if to, lent := b.Lent(h); !lent || to != want {
		t.Fatalf("21.2: Lent(%d): %v, %v; want %v", h, to, lent, want)
	}
}

func inFrame(t *testing.T, b *host.Book, h, frame int) {
	t.Helper()
	if f, e := b.Frame(h); f != frame || e != api.OK {
		t.Fatalf("21.1: Frame(%d): %d, %d; want %d", h, f, e, frame)
	}
	if !slices.Contains(b.List(), h) {
		t.Fatalf("21.2: List: %v; without %d", b.List(), h)
	}
}

// none fails the test if the number isn't refused as no page's by every call.
func none(t *testing.T, b *host.Book, h int) {
	t.Helper()
	if f, e := b.Frame(h); f != 0 || e != api.ErrNone {
		t.Fatalf("21.1: Frame(%d): %d, %d", h, f, e)
	}
	if e := b.Lend(h, api.Place{Guest: 2, Page: 7}); e != api.ErrNone {
		t.Fatalf("21.2: Lend(%d): %d", h, e)
	}
	if to, lent := b.Lent(h); lent || to != (api.Place{}) {
		t.Fatalf("21.2: Lent(%d): %v, %v", h, to, lent)
	}
	if e := b.Back(h); e != api.ErrNone {
		t.Fatalf("21.2: Back(%d): %d", h, e)
	}
	if f, e := b.Drop(h); f != 0 || e != api.ErrNone {
		t.Fatalf("21.2: Drop(%d): %d, %d", h, f, e)
	}
	if slices.Contains(b.List(), h) {
		t.Fatalf("21.2: List: %v; with %d", b.List(), h)
	}
}

func list(t *testing.T, b *host.Book, want ...int) {
	t.Helper()
	if l := b.List(); !slices.Equal(l, want) {
		t.Fatalf("21.2: List: %v; want %v", l, want)
	}
}

func TestNew(t *testing.T) {
	b := host.New()
	list(t, b)
	for _, h := range slices.Concat(noPages, []int{1, 2, 3}) {
		none(t, b, h)
	}
	list(t, b)
	add(t, b, 1, 9)
}

// TestAdd: any number that isn't below 0 is a frame, and one frame may come as often as it likes.
func TestAdd(t *testing.T) {
	b := host.New()
	frames := slices.Concat(edgeFrames, edgeFrames[:3])
	for i, frame := range frames {
		none(t, b, i+1)
		add(t, b, i+1, frame)
		for j := range i + 1 {
			owned(t, b, j+1, frames[j])
		}
	}
	for _, h := range noPages {
		none(t, b, h)
	}
}

// TestAddNoFrame: what is refused takes no number.
func TestAddNoFrame(t *testing.T) {
	b := host.New()
	for i, frame := range noFrames {
		if h, e := b.Add(frame); h != 0 || e != api.ErrArg {
			t.Errorf("21.1: Add(%d): %d, %d", frame, h, e)
		}
		none(t, b, i+1)
		add(t, b, i+1, i)
	}
	if l := b.List(); len(l) != len(noFrames) {
		t.Errorf("21.2: List: %v", l)
	}
}

// TestAddFull: MaxHost pages may ever be added, and those that are gone count as well.
func TestAddFull(t *testing.T) {
	b := host.New()
	for h := 1; h <= api.MaxHost; h++ {
		add(t, b, h, h*3)
		if h%2 == 0 {
			drop(t, b, h, h*3)
		}
	}
	full := func() {
		t.Helper()
		for _, frame := range edgeFrames {
			if h, e := b.Add(frame); h != 0 || e != api.ErrRange {
				t.Fatalf("21.1: Add(%d) of a page too many: %d, %d", frame, h, e)
			}
		}
		for _, frame := range noFrames {
			if h, e := b.Add(frame); h != 0 || e != api.ErrArg {
				t.Fatalf("21.1: Add(%d) of a page too many: %d, %d", frame, h, e)
			}
		}
	}
	full()
	none(t, b, api.MaxHost)
	none(t, b, api.MaxHost+1)
	if l := b.List(); len(l) != api.MaxHost/2 || l[0] != 1 || l[len(l)-1] != api.MaxHost-1 {
		t.Fatalf("21.2: List: %d pages", len(l))
	}
	for h := 1; h < api.MaxHost; h += 2 {
		drop(t, b, h, h*3)
	}
	list(t, b)
	full()
	list(t, b)
}

// TestAddLast: the last page is as good as the first one.
func TestAddLast(t *testing.T) {
	b := host.New()
	for h := 1; h < api.MaxHost; h++ {
		add(t, b, h, h)
		drop(t, b, h, h)
	}
	add(t, b, api.MaxHost, 9)
	lend(t, b, api.MaxHost, edgePlaces[3])
	lent(t, b, api.MaxHost, 9, edgePlaces[3])
	none(t, b, 1)
	back(t, b, api.MaxHost)
	owned(t, b, api.MaxHost, 9)
	list(t, b, api.MaxHost)
	drop(t, b, api.MaxHost, 9)
	none(t, b, api.MaxHost)
}

// TestLend: a page is lent to any place, and to it alone; several may be lent to one place.
func TestLend(t *testing.T) {
	for _, to := range edgePlaces {
		b := host.New()
		add(t, b, 1, 9, 18, 27)
		lend(t, b, 2, to)
		for _, other := range edgePlaces {
			if e := b.Lend(2, other); e != api.ErrBusy {
				t.Errorf("21.2: Lend(2, %v), lent to %v: %d", other, to, e)
			}
			lent(t, b, 2, 18, to)
		}
		owned(t, b, 1, 9)
		owned(t, b, 3, 27)
		lend(t, b, 3, to)
		lent(t, b, 2, 18, to)
		lent(t, b, 3, 27, to)
		owned(t, b, 1, 9)
		for _, h := range noPages {
			none(t, b, h)
		}
		list(t, b, 1, 2, 3)
	}
}

// TestBack: a page that came back is as it was, and may be lent anew, to another place.
func TestBack(t *testing.T) {
	b := host.New()
	add(t, b, 1, 9, 18)
	lend(t, b, 2, edgePlaces[4])
	for _, to := range edgePlaces {
		if e := b.Back(1); e != api.ErrState {
			t.Errorf("21.2: Back(1), not lent: %d", e)
		}
		owned(t, b, 1, 9)
		lend(t, b, 1, to)
		lent(t, b, 1, 9, to)
		back(t, b, 1)
		owned(t, b, 1, 9)
		lent(t, b, 2, 18, edgePlaces[4])
	}
	if e := b.Back(1); e != api.ErrState {
		t.Errorf("21.2: Back(1) again: %d", e)
	}
	list(t, b, 1, 2)
}

// TestDrop: a page is dropped if it is lent to nobody, whether it was lent or not.
func TestDrop(t *testing.T) {
	for _, to := range edgePlaces {
		b := host.New()
		add(t, b, 1, 9, 0, 27)
		lend(t, b, 1, to)
		for range 2 {
			if f, e := b.Drop(1); f != 0 || e != api.ErrBusy {
				t.Errorf("21.2: Drop(1), lent to %v: %d, %d", to, f, e)
			}
			lent(t, b, 1, 9, to)
		}
		drop(t, b, 2, 0)
		none(t, b, 2)
		list(t, b, 1, 3)
		back(t, b, 1)
		drop(t, b, 1, 9)
		none(t, b, 1)
		owned(t, b, 3, 27)
		list(t, b, 3)
	}
}

// TestDropNewest: the number of the last page isn't given again when it is gone, nor any other one.
func TestDropNewest(t *testing.T) {
	b := host.New()
	for h := 1; h <= 20; h++ {
		add(t, b, h, 5)
		drop(t, b, h, 5)
		for gone := 1; gone <= h+1; gone++ {
			none(t, b, gone)
		}
		list(t, b)
	}
	add(t, b, 21, 5, 5, 5)
	drop(t, b, 22, 5)
	add(t, b, 24, 6)
	none(t, b, 22)
	list(t, b, 21, 23, 24)
}

// TestToldApart: lists that were told are their caller's, their spare room too, and do not follow what comes.
func TestToldApart(t *testing.T) {
	b := host.New()
	add(t, b, 1, edgeFrames[:5]...)
	first, second := b.List(), b.List()
	first = first[:cap(first)]
	for i := range first {
		first[i] = 99
	}
	want := []int{1, 2, 3, 4, 5}
	if !slices.Equal(second, want) {
		t.Errorf("21.2: a list changed with another one: %v", second)
	}
	list(t, b, want...)
	drop(t, b, 1, edgeFrames[0])
	add(t, b, 6, 9)
	if !slices.Equal(second, want) {
		t.Errorf("21.2: a told list changed: %v", second)
	}
	list(t, b, 2, 3, 4, 5, 6)
}

// TestApart: what one book is given the other does not know of.
func TestApart(t *testing.T) {
	b, c := host.New(), host.New()
	add(t, b, 1, 9, 18)
	lend(t, b, 1, edgePlaces[3])
	list(t, c)
	none(t, c, 1)
	add(t, c, 1, 7)
	owned(t, c, 1, 7)
	drop(t, c, 1, 7)
	lent(t, b, 1, 9, edgePlaces[3])
	add(t, c, 2, 8)
	drop(t, b, 2, 18)
	owned(t, c, 2, 8)
}

func TestExample(t *testing.T) {
	b := host.New()
	to := api.Place{Guest: 2, Page: 7}
	add(t, b, 1, 9)
	lend(t, b, 1, to)
	if f, e := b.Drop(1); f != 0 || e != api.ErrBusy {
		t.Errorf("21.2: Drop(1): %d, %d", f, e)
	}
	lent(t, b, 1, 9, to)
}
