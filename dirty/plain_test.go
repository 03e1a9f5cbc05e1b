package dirty_test

import (
	"math"
	"math/rand"
	"slices"
	"testing"

	"demesne/api"
	"demesne/dirty"
)

// plain is a log read from the chapter word by word: its pages, as they came.
type plain struct {
	on    bool
	noted []uint64
}

func (l *plain) turn(on bool) api.Errno {
	if l.on == on {
		return api.ErrState
	}
	*l = plain{on: on}
	return api.OK
}

func (l *plain) note(page uint64) bool {
	if !l.on || slices.Contains(l.noted, page) {
		return false
	}
	l.noted = append(l.noted, page)
	return true
}

func (l *plain) forget(page uint64) bool {
	at := slices.Index(l.noted, page)
	if at < 0 {
		return false
	}
	l.noted = slices.Delete(l.noted, at, at+1)
	return true
}

func (l *plain) collect() ([]uint64, api.Errno) {
	if !l.on {
		return nil, api.ErrState
	}
	told := slices.Sorted(slices.Values(l.noted))
	l.noted = nil
	return told, api.OK
}

// somePage is often one that came already, or lies in a word with it.
func somePage(r *rand.Rand) uint64 {
	switch r.Intn(6) {
	case 0:
		return edgePages[r.Intn(len(edgePages))]
	case 1:
		return math.MaxUint64 - uint64(r.Intn(200))
	case 2:
		return r.Uint64()
	}
	return uint64(r.Intn(300))
}

func TestPlain(t *testing.T) {
	for seed := range int64(60) {
		r := rand.New(rand.NewSource(seed))
		l, p := dirty.New(), &plain{}
		for step := range 1000 {
			page, ok := somePage(r), true
			switch r.Intn(40) {
			case 0:
				ok = l.Start() == p.turn(true)
			case 1:
				ok = l.Stop() == p.turn(false)
			case 2:
				got, e := l.Collect()
				want, we := p.collect()
				ok = e == we && slices.Equal(got, want)
			case 3, 4, 5, 6, 7, 8, 9, 10, 11, 12, 13:
				ok = l.Forget(page) == p.forget(page)
			default:
				ok = l.Note(page) == p.note(page)
			}
			if !ok || l.On() != p.on || l.Has(page) != slices.Contains(p.noted, page) {
				t.Fatalf("19.1 to 19.3: seed %d, step %d, page %d: not as the chapter has it", seed, step, page)
			}
			for _, other := range p.noted {
				if !l.Has(other) {
					t.Fatalf("19.3: seed %d, step %d, page %d: %d is lost", seed, step, page, other)
				}
			}
		}
	}
}

// TestMany: a million pages that lie close, and as many that lie far apart.
func TestMany(t *testing.T) {
	const many = 1 << 20
	for _, apart := range []uint64{1, 3, 64, 1 << 44} {
		l := started(t)
		for i := range uint64(many) {
			page := (i * 7919 % many) * apart
			if !l.Note(page) || l.Note(page) {
				t.Fatalf("19.2: Note(%d): not true, then false", page)
			}
		}
		for i := uint64(0); i < many; i += 2 {
			if !l.Forget(i * apart) {
				t.Fatalf("19.2: Forget(%d): false", i*apart)
			}
		}
		told, e := l.Collect()
		if e != api.OK || len(told) != many/2 {
			t.Fatalf("19.3: Collect: %d pages, %d", len(told), e)
		}
		for i, page := range told {
			if want := uint64(2*i+1) * apart; page != want {
				t.Fatalf("19.3: Collect: place %d: %d; want %d", i, page, want)
			}
		}
		collects(t, l)
	}
}
