package tlb_test

import (
	"math/rand"
	"testing"

	"demesne/api"
	"demesne/tlb"
)

// plain is a TLB read from the chapter word by word: a place that is empty is nil.
type plain struct {
	sets, ways int
	at         [api.MaxSets][api.MaxWays]*api.Line
}

func (p *plain) find(id, asid int, vpage uint64) **api.Line {
	for set := range p.sets {
		for way := range p.ways {
			l := p.at[set][way]
			if l != nil && l.ID == id && l.ASID == asid && l.VPage == vpage {
				return &p.at[set][way]
			}
		}
	}
	return nil
}

func (p *plain) fill(l api.Line, way int) (api.Line, bool) {
	if there := p.find(l.ID, l.ASID, l.VPage); there != nil {
		was := **there
		*there = &l
		return was, true
	}
	set := l.VPage % uint64(p.sets)
	for w := range p.ways {
		if p.at[set][w] == nil {
			p.at[set][w] = &l
			return api.Line{}, false
		}
	}
	for way < 0 {
		way += p.ways
	}
	was := *p.at[set][way%p.ways]
	p.at[set][way%p.ways] = &l
	return was, true
}

func (p *plain) evict(set, way int) bool {
	if set < 0 || way < 0 || set >= p.sets || way >= p.ways || p.at[set][way] == nil {
		return false
	}
	p.at[set][way] = nil
	return true
}

func (p *plain) lose(lost func(l *api.Line) bool) int {
	n := 0
	for set := range p.sets {
		for way := range p.ways {
			if l := p.at[set][way]; l != nil && lost(l) {
				p.at[set][way] = nil
				n++
			}
		}
	}
	return n
}

func (p *plain) list() []api.Line {
	var list []api.Line
	p.lose(func(l *api.Line) bool {
		list = append(list, *l)
		return false
	})
	return list
}

// step makes one call of both, drawn by r, and tells what it was and whether they answered alike.
func step(r *rand.Rand, x *tlb.TLB, p *plain) (string, bool) {
	id, asid, frame := r.Intn(3), r.Intn(3), r.Intn(9)
	vpage, ipage := uint64(r.Intn(3*p.sets)), uint64(r.Intn(9))
	switch r.Intn(40) {
	case 0:
		return "15.3: ID", x.ID(id) == p.lose(func(l *api.Line) bool { return l.ID == id })
	case 1:
		return "15.3: ASID", x.ASID(id, asid) == p.lose(func(l *api.Line) bool { return l.ID == id && l.ASID == asid })
	case 2, 3, 4:
		return "15.3: VA", x.VA(id, asid, vpage) == p.lose(func(l *api.Line) bool { return l.ID == id && l.ASID == asid && l.VPage == vpage })
	case 5, 6:
		return "15.3: Page", x.Page(id, ipage) == p.lose(func(l *api.Line) bool { return l.ID == id && l.IPage == ipage })
	case 7:
		return "15.3: Frame", x.Frame(frame) == p.lose(func(l *api.Line) bool { return l.Frame == frame })
	case 8:
		if r.Intn(20) != 0 {
			return "", true
		}
		return "15.3: All", x.All() == p.lose(func(*api.Line) bool { return true })
	case 9, 10, 11, 12:
		set, way := r.Intn(p.sets+2)-1, r.Intn(p.ways+2)-1
		return "15.2: Evict", x.Evict(set, way) == p.evict(set, way)
	case 13, 14, 15:
		got, ok := x.Find(id, asid, vpage)
		if there := p.find(id, asid, vpage); there != nil {
			return "15.1: Find", ok && got == **there
		}
		return "15.1: Find", !ok && got == api.Line{}
	}
	l := api.Line{ID: id, ASID: asid, VPage: vpage, IPage: ipage, Frame: frame, Perm: api.Perm{W: r.Intn(2) == 0}, Stage2: api.Perm{X: r.Intn(2) == 0}}
	way := r.Intn(4*p.ways) - 2*p.ways
	was, full := x.Fill(l, way)
	wantWas, wantFull := p.fill(l, way)
	return "15.2: Fill", was == wantWas && full == wantFull
}

func TestAgainstPlain(t *testing.T) {
	r := rand.New(rand.NewSource(15))
	for sets := 1; sets <= api.MaxSets; sets *= 2 {
		for ways := 1; ways <= api.MaxWays; ways++ {
			x, p := made(t, sets, ways), &plain{sets: sets, ways: ways}
			for range 1500 {
				if what, alike := step(r, x, p); !alike {
					t.Fatalf("%s: %d sets of %d ways: not as the chapter has it", what, sets, ways)
				}
				holds(t, "15.4", x, p.list()...)
				oneOfEach(t, x.List())
			}
			if t.Failed() {
				return
			}
		}
	}
}

func oneOfEach(t *testing.T, lines []api.Line) {
	t.Helper()
	seen := map[[3]uint64]int{}
	for _, l := range lines {
		name := [3]uint64{uint64(l.ID), uint64(l.ASID), l.VPage}
		if seen[name]++; seen[name] > 1 {
			t.Errorf("15.4: %d lines of %v", seen[name], name)
		}
	}
}
