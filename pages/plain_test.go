package pages_test

import (
	"math/rand"
	"slices"
	"testing"

	"demesne/api"
	"demesne/pages"
)

// counted is a page's record with its heat as two counts, which are told without the calls that are tried.
type counted struct {
	page          uint64
	kind, at      int
	write         bool
	read, written int
}

// plain is a guest's pages read from the chapter word by word: records, as they came.
type plain []counted

func (l plain) find(page uint64) int {
	return slices.IndexFunc(l, func(c counted) bool { return c.page == page })
}

func (l plain) get(page uint64) api.Rec {
	at := l.find(page)
	if at < 0 {
		return api.Rec{}
	}
	c := l[at]
	return api.Rec{Kind: c.kind, At: c.at, Write: c.write, Heat: complex(float64(c.read), float64(c.written))}
}

func (l *plain) set(c counted) api.Errno {
	switch {
	case c.page >= end:
		return api.ErrRange
	case c.kind != api.Absent && !slices.Contains(kinds, c.kind), c.at < 0:
		return api.ErrArg
	}
	if at := l.find(c.page); at >= 0 {
		*l = slices.Delete(*l, at, at+1)
	}
	if c.kind == api.Absent {
		return api.OK
	}
	if c.read < 0 || c.written < 0 || c.read > api.MaxHeat || c.written > api.MaxHeat {
		c.read, c.written = 0, 0
	}
	*l = append(*l, c)
	return api.OK
}

func (l plain) touch(page uint64, store bool) bool {
	at := l.find(page)
	switch {
	case at < 0:
		return false
	case store && l[at].written < api.MaxHeat:
		l[at].written++
	case !store && l[at].read < api.MaxHeat:
		l[at].read++
	}
	return true
}

func (l plain) fade() {
	for at := range l {
		l[at].read /= 2
		l[at].written /= 2
	}
}

func (l plain) records() map[uint64]api.Rec {
	m := map[uint64]api.Rec{}
	for _, c := range l {
		m[c.page] = l.get(c.page)
	}
	return m
}

// drawPage is one of few, so that many have a record, or now and then one beyond.
func drawPage(r *rand.Rand, few int) uint64 {
	switch r.Intn(10) {
	case 0:
		return end - 1 + uint64(r.Intn(2))
	case 1:
		return uint64(r.Intn(few)) << (r.Intn(2) * 32)
	}
	return uint64(r.Intn(few))
}

// drawPart is a heat's part that may be wrong, or almost.
func drawPart(r *rand.Rand) int {
	return []int{0, 0, 1, 2, r.Intn(100), api.MaxHeat - 1, api.MaxHeat, api.MaxHeat + 1, -1}[r.Intn(9)]
}

// draw is a record, of which some are refused, and some are Absent.
func draw(r *rand.Rand, few int) counted {
	c := counted{page: drawPage(r, few), kind: r.Intn(6), at: r.Intn(1000), write: r.Intn(2) == 0}
	if r.Intn(8) == 0 {
		c.kind = r.Intn(20) - 7
	}
	if r.Intn(8) == 0 {
		c.at = -r.Intn(3)
	}
	if r.Intn(2) == 0 {
		c.read, c.written = drawPart(r), drawPart(r)
	}
	return c
}

// step makes one call of both, drawn by r, and tells what it was and whether they answered alike.
func step(r *rand.Rand, p *pages.Pages, l *plain, few int) (string, bool) {
	switch r.Intn(9) {
	case 0:
		p.Fade()
		l.fade()
		return "18.2: Fade", true
	case 1, 2, 3, 4:
		page, store := drawPage(r, few), r.Intn(2) == 0
		return "18.2: Touch", p.Touch(page, store) == l.touch(page, store)
	}
	c := draw(r, few)
	z := complex(float64(c.read), float64(c.written))
	return "18.1: Set", p.Set(c.page, api.Rec{Kind: c.kind, At: c.at, Write: c.write, Heat: z}) == l.set(c)
}

func TestAgainstPlain(t *testing.T) {
	r := rand.New(rand.NewSource(18))
	for _, few := range []int{1, 2, 3, 5, 9, 20} {
		for range 10 {
			p, l := pages.New(), plain{}
			for range 300 {
				if what, alike := step(r, p, &l, few); !alike {
					t.Fatalf("%s: not as the chapter has it", what)
				}
				are(t, p, l.records())
			}
		}
	}
}

// TestMany: as many pages as a machine has frames, in an order that tells nothing.
func TestMany(t *testing.T) {
	const many = api.MaxFrames
	r := rand.New(rand.NewSource(81))
	p := pages.New()
	for _, i := range r.Perm(many) {
		set(t, p, uint64(i)*256, api.Rec{Kind: i%5 + 1, At: i, Heat: complex(float64(i), 2)})
	}
	list := p.List()
	if len(list) != many {
		t.Fatalf("18.2: %d pages", len(list))
	}
	p.Fade()
	for i, page := range list {
		if page != uint64(i)*256 {
			t.Fatalf("18.2: List: %d: %d", i, page)
		}
		is(t, p, page, api.Rec{Kind: i%5 + 1, At: i, Heat: complex(float64(i/2), 1)})
	}
	for _, i := range r.Perm(many) {
		if i%3 > 0 {
			set(t, p, uint64(i)*256, api.Rec{})
		}
	}
	for kind := range 7 {
		want := 0
		for i := 0; i < many; i += 3 {
			if i%5+1 == kind {
				want++
			}
		}
		if n := p.Count(kind); n != want {
			t.Errorf("18.2: Count(%d): %d; want %d", kind, n, want)
		}
	}
	for i, page := range p.List() {
		if page != uint64(i)*3*256 {
			t.Fatalf("18.2: List: %d: %d", i, page)
		}
	}
}
