package ledger_test

import (
	"math"
	"math/rand"
	"slices"
	"testing"

	"demesne/api"
	"demesne/ledger"
)

const size = 12

// oddParties are no guest and not none, those beside the ends among them and those whose low bits are a guest.
var oddParties = []int{math.MinInt, math.MinInt + 1, -1<<32 + 3, -256, -3, -1, 256, 257, 1<<8 + 3, 1<<16 + 3, 1<<32 + 3, math.MaxInt - 1, math.MaxInt}

var oddActs = []int{math.MinInt, math.MinInt + 3, -1<<32 + 3, -9, -1, 0, 11, 12, 1<<8 + 3, 1<<32 + 1, 1<<32 + 9, math.MaxInt - 1, math.MaxInt}

var oddFrames = []int{math.MinInt, -1 << 32, -size, -1, size, size + 1, 1 << 20, 1 << 32, 1<<32 + 1, math.MaxInt}

var guests = []int{1, 2, 3, 254, 255}

func made(t *testing.T, frames int) *ledger.Ledger {
	t.Helper()
	l, e := ledger.New(frames)
	if e != api.OK || l == nil {
		t.Fatalf("11.1: New(%d): %v, %d", frames, l, e)
	}
	return l
}

func do(t *testing.T, l *ledger.Ledger, frame, act, party int) {
	t.Helper()
	if e := l.Do(frame, act, party); e != api.OK {
		t.Fatalf("11.2: Do(%d, %d, %d): %d", frame, act, party, e)
	}
}

// ways are the acts by which a Free frame comes to each state, the party being 3 where there is one.
var ways = []struct {
	want api.Entry
	acts [][2]int
}{
	{api.Entry{}, nil},
	{api.Entry{State: api.Pool}, [][2]int{{api.ActPool, 0}}},
	{api.Entry{State: api.Host}, [][2]int{{api.ActHost, 0}}},
	{api.Entry{State: api.HostLent, Party: 3}, [][2]int{{api.ActHost, 0}, {api.ActLend, 3}}},
	{api.Entry{State: api.Guest, Party: 3}, [][2]int{{api.ActGuest, 3}}},
	{api.Entry{State: api.GuestLent, Party: 3}, [][2]int{{api.ActGuest, 3}, {api.ActOffer, 3}}},
	{api.Entry{State: api.Merged}, [][2]int{{api.ActGuest, 3}, {api.ActMerge, 3}}},
}

func at(t *testing.T, frame, way int) *ledger.Ledger {
	t.Helper()
	l := made(t, size)
	for _, a := range ways[way].acts {
		do(t, l, frame, a[0], a[1])
	}
	if got := l.Get(frame); got != ways[way].want {
		t.Fatalf("11.2: frame %d is %+v, not %+v", frame, got, ways[way].want)
	}
	return l
}

func TestNew(t *testing.T) {
	for _, n := range []int{math.MinInt, -1 << 32, -1, 0, api.MaxFrames + 1, 1 << 32, 1<<32 + 1, math.MaxInt} {
		if l, e := ledger.New(n); l != nil || e != api.ErrArg {
			t.Errorf("11.1: New(%d): %v, %d", n, l, e)
		}
	}
	for _, n := range []int{1, 2, size, api.MaxFrames} {
		l := made(t, n)
		if l.Count(api.Free, 0) != n || l.Count(api.Free, -1) != n {
			t.Errorf("11.1: of %d frames %d are Free", n, l.Count(api.Free, -1))
		}
		if l.Get(0) != (api.Entry{}) || l.Get(n-1) != (api.Entry{}) {
			t.Errorf("11.1: of %d frames: %+v, %+v", n, l.Get(0), l.Get(n-1))
		}
		do(t, l, n-1, api.ActPool, 0)
		if e := l.May(n, api.ActPool, 0); e != api.ErrRange {
			t.Errorf("11.2: frame %d of %d: %d", n, n, e)
		}
	}
}

func TestTwoLedgers(t *testing.T) {
	a, b := made(t, size), made(t, size)
	do(t, a, 4, api.ActGuest, 3)
	if b.Get(4) != (api.Entry{}) || b.Count(api.Free, 0) != size {
		t.Errorf("11.1: one ledger's move is another's: %+v", b.Get(4))
	}
}

func TestGetOfNoFrame(t *testing.T) {
	l := made(t, size)
	for f := range size {
		do(t, l, f, api.ActGuest, 3)
	}
	for _, f := range oddFrames {
		if got := l.Get(f); got != (api.Entry{}) {
			t.Errorf("11.1: Get(%d): %+v", f, got)
		}
	}
}

func TestExamples(t *testing.T) {
	l := made(t, size)
	for i, c := range []struct {
		act, party int
		e          api.Errno
		want       api.Entry
	}{
		{api.ActGuest, 3, api.OK, api.Entry{State: api.Guest, Party: 3}},
		{api.ActOffer, 3, api.OK, api.Entry{State: api.GuestLent, Party: 3}},
		{api.ActRevoke, 2, api.ErrOwner, api.Entry{State: api.GuestLent, Party: 3}},
		{api.ActLend, 3, api.ErrState, api.Entry{State: api.GuestLent, Party: 3}},
		{api.ActRevoke, 3, api.OK, api.Entry{State: api.Guest, Party: 3}},
		{api.ActMerge, 2, api.ErrOwner, api.Entry{State: api.Guest, Party: 3}},
		{api.ActMerge, 3, api.OK, api.Entry{State: api.Merged}},
		{api.ActRelease, 3, api.ErrArg, api.Entry{State: api.Merged}},
		{api.ActBreak, 0, api.ErrArg, api.Entry{State: api.Merged}},
		{api.ActBreak, 7, api.OK, api.Entry{State: api.Guest, Party: 7}},
		{api.ActRelease, 3, api.ErrOwner, api.Entry{State: api.Guest, Party: 7}},
		{api.ActRelease, 0, api.ErrArg, api.Entry{State: api.Guest, Party: 7}},
		{api.ActRelease, 7, api.OK, api.Entry{}},
		{api.ActRelease, 7, api.ErrState, api.Entry{}},
		{api.ActRelease, 999, api.ErrState, api.Entry{}},
		{api.ActHost, 0, api.OK, api.Entry{State: api.Host}},
		{api.ActLend, 255, api.OK, api.Entry{State: api.HostLent, Party: 255}},
		{api.ActRelease, -1, api.ErrState, api.Entry{State: api.HostLent, Party: 255}},
		{api.ActReturn, 254, api.ErrOwner, api.Entry{State: api.HostLent, Party: 255}},
		{api.ActReturn, 255, api.OK, api.Entry{State: api.Host}},
		{api.ActRelease, 255, api.ErrArg, api.Entry{State: api.Host}},
		{api.ActRelease, 0, api.OK, api.Entry{}},
		{api.ActPool, 0, api.OK, api.Entry{State: api.Pool}},
		{api.ActPool, 1, api.ErrArg, api.Entry{State: api.Pool}},
		{api.ActPool, 0, api.ErrState, api.Entry{State: api.Pool}},
		{api.ActRelease, 0, api.OK, api.Entry{}},
	} {
		may := l.May(5, c.act, c.party)
		if e := l.Do(5, c.act, c.party); e != c.e || may != c.e || l.Get(5) != c.want {
			t.Errorf("11.2: row %d: May %d, Do %d, not %d; %+v, not %+v", i, may, e, c.e, l.Get(5), c.want)
		}
	}
}

// p stands in rows for the party that is given.
const p = -1

// rows is the chapter's table but for ActRelease.
var rows = map[int][2]api.Entry{
	api.ActPool:   {{State: api.Free}, {State: api.Pool}},
	api.ActHost:   {{State: api.Free}, {State: api.Host}},
	api.ActGuest:  {{State: api.Free}, {State: api.Guest, Party: p}},
	api.ActLend:   {{State: api.Host}, {State: api.HostLent, Party: p}},
	api.ActReturn: {{State: api.HostLent, Party: p}, {State: api.Host}},
	api.ActOffer:  {{State: api.Guest, Party: p}, {State: api.GuestLent, Party: p}},
	api.ActRevoke: {{State: api.GuestLent, Party: p}, {State: api.Guest, Party: p}},
	api.ActMerge:  {{State: api.Guest, Party: p}, {State: api.Merged}},
	api.ActBreak:  {{State: api.Merged}, {State: api.Guest, Party: p}},
}

func isGuest(party int) bool { return 1 <= party && party <= 255 }

// model is what an act makes of an entry, or the refusal.
func model(now api.Entry, act, party int) (api.Entry, api.Errno) {
	if act == api.ActRelease {
		return modelRelease(now, party)
	}
	row, ok := rows[act]
	if !ok {
		return now, api.ErrArg
	}
	named := row[0].Party == p || row[1].Party == p
	if named && !isGuest(party) || !named && party != 0 {
		return now, api.ErrArg
	}
	if now.State != row[0].State {
		return now, api.ErrState
	}
	if row[0].Party == p && now.Party != party {
		return now, api.ErrOwner
	}
	to := row[1]
	if to.Party == p {
		to.Party = party
	}
	return to, api.OK
}

func modelRelease(now api.Entry, party int) (api.Entry, api.Errno) {
	switch now.State {
	case api.Free, api.HostLent:
		return now, api.ErrState
	case api.Pool, api.Host, api.Merged:
		if party != 0 {
			return now, api.ErrArg
		}
		return api.Entry{}, api.OK
	}
	if !isGuest(party) {
		return now, api.ErrArg
	}
	if now.Party != party {
		return now, api.ErrOwner
	}
	return api.Entry{}, api.OK
}

func parties() []int {
	return append(append([]int{0}, guests...), oddParties...)
}

func acts() []int {
	l := slices.Clone(oddActs)
	for a := api.ActPool; a <= api.ActBreak; a++ {
		l = append(l, a)
	}
	return l
}

func TestEveryMove(t *testing.T) {
	for way, w := range ways {
		for _, act := range acts() {
			for _, party := range parties() {
				l := at(t, 5, way)
				want, e := model(w.want, act, party)
				if got := l.May(5, act, party); got != e {
					t.Errorf("11.2: %+v: May(5, %d, %d): %d, not %d", w.want, act, party, got, e)
				}
				if got := l.Get(5); got != w.want {
					t.Errorf("11.2: %+v: May(5, %d, %d) made it %+v", w.want, act, party, got)
				}
				if got := l.Do(5, act, party); got != e {
					t.Errorf("11.2: %+v: Do(5, %d, %d): %d, not %d", w.want, act, party, got, e)
				}
				if got := l.Get(5); got != want {
					t.Errorf("11.2: %+v: Do(5, %d, %d) made it %+v, not %+v", w.want, act, party, got, want)
				}
				if n := l.Count(want.State, want.Party); want.State != api.Free && n != 1 {
					t.Errorf("11.4: %+v is the state of %d frames", want, n)
				}
			}
		}
	}
}

func TestNoFrame(t *testing.T) {
	l := made(t, size)
	for _, f := range oddFrames {
		for _, act := range acts() {
			for _, party := range parties() {
				if may, e := l.May(f, act, party), l.Do(f, act, party); may != api.ErrRange || e != api.ErrRange {
					t.Errorf("11.2: May(%d, %d, %d): %d; Do: %d", f, act, party, may, e)
				}
			}
		}
	}
	if l.Count(api.Free, 0) != size {
		t.Errorf("11.4: of no frame something was changed: %d are Free", l.Count(api.Free, 0))
	}
}

func TestCountAndList(t *testing.T) {
	l := made(t, size)
	for _, f := range []int{9, 3, 11} {
		do(t, l, f, api.ActGuest, 2)
	}
	do(t, l, 4, api.ActGuest, 1)
	do(t, l, 11, api.ActOffer, 2)
	do(t, l, 0, api.ActHost, 0)
	do(t, l, 7, api.ActHost, 0)
	do(t, l, 7, api.ActLend, 2)
	for _, c := range []struct {
		state, party int
		want         []int
	}{
		{api.Guest, 2, []int{3, 9}},
		{api.Guest, 1, []int{4}},
		{api.Guest, 0, nil},
		{api.Guest, 3, nil},
		{api.Guest, -1, []int{3, 4, 9}},
		{api.Guest, math.MinInt, []int{3, 4, 9}},
		{api.Guest, math.MaxInt, nil},
		{api.Guest, 1<<32 + 2, nil},
		{api.GuestLent, 2, []int{11}},
		{api.GuestLent, -2, []int{11}},
		{api.Host, 0, []int{0}},
		{api.Host, -1, []int{0}},
		{api.Host, 2, nil},
		{api.HostLent, 2, []int{7}},
		{api.HostLent, 0, nil},
		{api.Free, 0, []int{1, 2, 5, 6, 8, 10}},
		{api.Free, -7, []int{1, 2, 5, 6, 8, 10}},
		{api.Free, 1, nil},
		{api.Pool, -1, nil},
		{api.Merged, 0, nil},
		{7, -1, nil},
		{-1, -1, nil},
		{1 << 32, -1, nil},
		{1<<32 + api.Guest, -1, nil},
		{math.MinInt, -1, nil},
		{math.MaxInt, -1, nil},
	} {
		if got := l.List(c.state, c.party); !slices.Equal(got, c.want) {
			t.Errorf("11.3: List(%d, %d): %v, not %v", c.state, c.party, got, c.want)
		}
		if got := l.Count(c.state, c.party); got != len(c.want) {
			t.Errorf("11.3: Count(%d, %d): %d, not %d", c.state, c.party, got, len(c.want))
		}
	}
}

func TestListIsNew(t *testing.T) {
	l := made(t, size)
	do(t, l, 3, api.ActGuest, 2)
	do(t, l, 8, api.ActGuest, 2)
	for _, state := range []int{api.Guest, api.Free} {
		a, b := l.List(state, -1), l.List(state, -1)
		want := slices.Clone(b)
		for i := range a[:cap(a)] {
			a[:cap(a)][i] = -5
		}
		if !slices.Equal(b, want) || !slices.Equal(l.List(state, -1), want) {
			t.Errorf("11.3: two answers of List(%d, -1) share memory", state)
		}
	}
}

// TestLife: from Free to Free, whichever way a frame goes, no other party has a say in it.
func TestLife(t *testing.T) {
	for way, w := range ways {
		if w.want.Party == 0 {
			continue
		}
		l := at(t, 5, way)
		for act := api.ActPool; act <= api.ActBreak; act++ {
			for party := 0; party <= api.MaxGuests; party++ {
				if party != 3 && l.Do(5, act, party) == api.OK {
					t.Errorf("11.4: %+v: guest %d did %d", w.want, party, act)
				}
			}
		}
		if l.Get(5) != w.want {
			t.Errorf("11.4: %+v became %+v", w.want, l.Get(5))
		}
	}
}

func TestAgainstModel(t *testing.T) {
	r := rand.New(rand.NewSource(11))
	l := made(t, size)
	var entries [size]api.Entry
	reached := map[api.Entry]int{}
	for range 60000 {
		f, act, party := r.Intn(size+2)-1, r.Intn(12), r.Intn(4)
		if f < 0 || f >= size {
			if e := l.Do(f, act, party); e != api.ErrRange {
				t.Fatalf("11.2: Do(%d, %d, %d): %d", f, act, party, e)
			}
			continue
		}
		want, e := model(entries[f], act, party)
		if may := l.May(f, act, party); may != e {
			t.Fatalf("11.2: May(%d, %d, %d) of %+v: %d, not %d", f, act, party, entries[f], may, e)
		}
		if got := l.Do(f, act, party); got != e {
			t.Fatalf("11.2: Do(%d, %d, %d) of %+v: %d, not %d", f, act, party, entries[f], got, e)
		}
		entries[f] = want
		reached[want]++
		compare(t, l, entries, r.Intn(9)-1, r.Intn(5)-1)
	}
	if len(reached) != 13 {
		t.Errorf("only %d entries were reached", len(reached))
	}
}

func compare(t *testing.T, l *ledger.Ledger, entries [size]api.Entry, state, party int) {
	t.Helper()
	var list []int
	for f, entry := range entries {
		if got := l.Get(f); got != entry {
			t.Fatalf("11.4: frame %d is %+v, not %+v", f, got, entry)
		}
		if entry.State == state && (party < 0 || entry.Party == party) {
			list = append(list, f)
		}
	}
	if got := l.List(state, party); !slices.Equal(got, list) {
		t.Fatalf("11.3: List(%d, %d): %v, not %v", state, party, got, list)
	}
	if got := l.Count(state, party); got != len(list) {
		t.Fatalf("11.3: Count(%d, %d): %d, not %d", state, party, got, len(list))
	}
}

// TestManyFrames: a machine of the greatest size, all of whose frames are of someone.
func TestManyFrames(t *testing.T) {
	l := made(t, api.MaxFrames)
	for f := range api.MaxFrames {
		if e := l.Do(f, api.ActGuest, 1+f%api.MaxGuests); e != api.OK {
			t.Fatalf("11.2: Do(%d): %d", f, e)
		}
	}
	if l.Count(api.Free, -1) != 0 || l.Count(api.Guest, -1) != api.MaxFrames || len(l.List(api.Free, 0)) != 0 {
		t.Errorf("11.3: %d are Free, %d are guests'", l.Count(api.Free, -1), l.Count(api.Guest, -1))
	}
	list := l.List(api.Guest, 2)
	if len(list) != l.Count(api.Guest, 2) || !slices.IsSorted(list) || list[0] != 1 || list[1] != 256 {
		t.Errorf("11.3: List(Guest, 2): %d frames", len(list))
	}
	for f := range api.MaxFrames {
		do(t, l, f, api.ActRelease, 1+f%api.MaxGuests)
	}
	if l.Count(api.Free, -1) != api.MaxFrames || l.Count(api.Guest, -1) != 0 {
		t.Errorf("11.4: behind the end %d are Free", l.Count(api.Free, -1))
	}
}
