package vmid_test

import (
	"math/rand"
	"testing"

	"demesne/api"
	"demesne/vmid"
)

// plain is IDs read from the chapter word by word: which were given in this turn, and who has one.
type plain struct {
	n, turn int
	given   map[int]bool
	has     map[int]int
}

func plainOf(n int) *plain {
	return &plain{n: n, given: map[int]bool{}, has: map[int]int{}}
}

func (p *plain) get(guest int) (int, bool, api.Errno) {
	if guest < 1 || guest > 255 {
		return 0, false, api.ErrArg
	}
	if id, ok := p.has[guest]; ok {
		return id, false, api.OK
	}
	for id := 1; id <= p.n; id++ {
		if !p.given[id] {
			p.given[id], p.has[guest] = true, id
			return id, false, api.OK
		}
	}
	p.turn++
	p.given, p.has = map[int]bool{1: true}, map[int]int{guest: 1}
	return 1, true, api.OK
}

func (p *plain) drop(guest int) bool {
	_, ok := p.has[guest]
	delete(p.has, guest)
	return ok
}

// keeps holds 16.3 against what was seen of a turn: by ID, the one guest that it was ever told of.
type keeps struct {
	turn int
	of   map[int]int
}

func (k *keeps) see(t *testing.T, turn, guest, id int) {
	t.Helper()
	if turn != k.turn {
		k.turn, k.of = turn, map[int]int{}
	}
	if old, ok := k.of[id]; ok && old != guest {
		t.Fatalf("16.3: in the turn %d the ID %d has the guests %d and %d", turn, id, old, guest)
	}
	k.of[id] = guest
}

// step makes one call of both, drawn by r, and tells what it was and whether they answered alike.
func step(r *rand.Rand, v *vmid.IDs, p *plain, guests int) (string, bool) {
	guest := r.Intn(guests+2) + r.Intn(2)*(api.MaxGuests-guests)
	switch r.Intn(8) {
	case 0:
		return "16.2: Drop", v.Drop(guest) == p.drop(guest)
	case 1:
		id, has := v.Has(guest)
		want, ok := p.has[guest]
		return "16.2: Has", id == want && has == ok
	}
	id, roll, e := v.Get(guest)
	wantID, wantRoll, wantE := p.get(guest)
	return "16.2: Get", id == wantID && roll == wantRoll && e == wantE
}

func TestAgainstPlain(t *testing.T) {
	r := rand.New(rand.NewSource(16))
	for n := 1; n <= api.MaxGuests; n += 1 + n/8 {
		for _, guests := range []int{n/4 + 1, n/2 + 1, api.MaxGuests} {
			v, p, k := made(t, n), plainOf(n), keeps{of: map[int]int{}}
			for range 4 * (n + 50) {
				if what, alike := step(r, v, p, guests); !alike {
					t.Fatalf("%s: of %d IDs: not as the chapter has it", what, n)
				}
				stands(t, v, p.turn, p.has)
				for guest := 1; guest <= api.MaxGuests; guest++ {
					if id, has := v.Has(guest); has {
						k.see(t, v.Turn(), guest, id)
					}
				}
			}
		}
	}
}
