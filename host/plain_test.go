package host_test

import (
	"math/rand"
	"slices"
	"testing"

	"demesne/api"
	"demesne/host"
)

// leaf is a page that was ever added; what became of it is written beside it.
type leaf struct {
	frame int
	gone  bool
	lent  []api.Place // one at most
}

// plain is a Book read from the chapter word by word: the leaves, as they came; the first one is page 1.
type plain []leaf

func (l *plain) add(frame int) (int, api.Errno) {
	switch {
	case frame < 0:
		return 0, api.ErrArg
	case len(*l) >= api.MaxHost:
		return 0, api.ErrRange
	}
	*l = append(*l, leaf{frame: frame})
	return len(*l), api.OK
}

// at is the page h, or nil if there is none.
func (l plain) at(h int) *leaf {
	if h < 1 || h > len(l) || l[h-1].gone {
		return nil
	}
	return &l[h-1]
}

func (l plain) frame(h int) (int, api.Errno) {
	if p := l.at(h); p != nil {
		return p.frame, api.OK
	}
	return 0, api.ErrNone
}

func (l plain) lend(h int, to api.Place) api.Errno {
	p := l.at(h)
	switch {
	case p == nil:
		return api.ErrNone
	case len(p.lent) > 0:
		return api.ErrBusy
	}
	p.lent = append(p.lent, to)
	return api.OK
}

func (l plain) lentTo(h int) (api.Place, bool) {
	if p := l.at(h); p != nil && len(p.lent) > 0 {
		return p.lent[0], true
	}
	return api.Place{}, false
}

func (l plain) back(h int) api.Errno {
	p := l.at(h)
	switch {
	case p == nil:
		return api.ErrNone
	case len(p.lent) == 0:
		return api.ErrState
	}
	p.lent = nil
	return api.OK
}

func (l plain) drop(h int) (int, api.Errno) {
	p := l.at(h)
	switch {
	case p == nil:
		return 0, api.ErrNone
	case len(p.lent) > 0:
		return 0, api.ErrBusy
	}
	p.gone = true
	return p.frame, api.OK
}

func (l plain) list() []int {
	var list []int
	for i, p := range l {
		if !p.gone {
			list = append(list, i+1)
		}
	}
	return list
}

// step makes one call of both, drawn by r, and tells what it was and whether they answered alike.
func step(r *rand.Rand, b *host.Book, l *plain, adds int) (string, bool) {
	h := r.Intn(len(*l)+3) - 1
	if r.Intn(10) < adds {
		frame := r.Intn(9) - 1
		n, e := b.Add(frame)
		m, f := l.add(frame)
		return "21.1: Add", n == m && e == f
	}
	switch r.Intn(3) {
	case 0:
		to := edgePlaces[r.Intn(len(edgePlaces))]
		return "21.2: Lend", b.Lend(h, to) == l.lend(h, to)
	case 1:
		return "21.2: Back", b.Back(h) == l.back(h)
	}
	n, e := b.Drop(h)
	m, f := l.drop(h)
	return "21.2: Drop", n == m && e == f
}

// same tells in which answer the book is not as the plain one, if in any.
func same(b *host.Book, l plain) string {
	if !slices.Equal(b.List(), l.list()) {
		return "21.2: List"
	}
	for h := -1; h <= len(l)+2; h++ {
		n, e := b.Frame(h)
		m, f := l.frame(h)
		if n != m || e != f {
			return "21.1: Frame"
		}
		to, lent := b.Lent(h)
		is, so := l.lentTo(h)
		if to != is || lent != so {
			return "21.2: Lent"
		}
	}
	return ""
}

func TestAgainstPlain(t *testing.T) {
	r := rand.New(rand.NewSource(21))
	for round := range 40 {
		b, l := host.New(), plain{}
		for range 300 {
			if what, alike := step(r, b, &l, 1+round%5); !alike {
				t.Fatalf("%s: not as the chapter has it", what)
			}
			if what := same(b, l); what != "" {
				t.Fatalf("%s: not as the chapter has it", what)
			}
		}
	}
}

// TestMany: as many pages as a book takes, lent, brought back and dropped in any order.
func TestMany(t *testing.T) {
	r := rand.New(rand.NewSource(12))
	b := host.New()
	where := func(h int) api.Place { return api.Place{Guest: h%api.MaxGuests + 1, Page: uint64(h) << 9} }
	for h := 1; h <= api.MaxHost; h++ {
		add(t, b, h, h^0x5555)
	}
	for _, i := range r.Perm(api.MaxHost) {
		lend(t, b, i+1, where(i+1))
	}
	for h := 1; h <= api.MaxHost; h++ {
		if to, lent := b.Lent(h); to != where(h) || !lent {
			t.Fatalf("21.2: Lent(%d): %v, %v", h, to, lent)
		}
	}
	told := b.List()
	if len(told) != api.MaxHost {
		t.Fatalf("21.2: %d pages", len(told))
	}
	for i, h := range told {
		if h != i+1 {
			t.Fatalf("21.2: page %d: %d", i+1, h)
		}
	}
	for _, i := range r.Perm(api.MaxHost) {
		if _, e := b.Drop(i + 1); e != api.ErrBusy {
			t.Fatalf("21.2: Drop(%d), lent: %d", i+1, e)
		}
		back(t, b, i+1)
		drop(t, b, i+1, (i+1)^0x5555)
	}
	list(t, b)
}
