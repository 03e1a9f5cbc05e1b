package vmid_test

import (
	"math"
	"testing"

	"demesne/api"
	"demesne/vmid"
)

// noGuests are numbers that are no guest's, those among them whose low bits are.
var noGuests = []int{0, -1, -2, -7, -255, -256, 256, 257, 263, 511, 512, 1 << 32, 1<<32 + 1, 1<<32 + 7, -1 << 32, -1<<32 + 1, math.MaxInt, math.MaxInt - 1, math.MinInt, math.MinInt + 1, math.MinInt + 7}

func made(t *testing.T, n int) *vmid.IDs {
	t.Helper()
	v, e := vmid.New(n)
	if v == nil || e != api.OK {
		t.Fatalf("16.1: New(%d): %v, %d", n, v, e)
	}
	return v
}

// get fails the test if Get does not answer this ID and whether the turn rolled.
func get(t *testing.T, v *vmid.IDs, guest, id int, roll bool) {
	t.Helper()
	if got, rolled, e := v.Get(guest); got != id || rolled != roll || e != api.OK {
		t.Fatalf("16.2: Get(%d): %d, %v, %d; want %d, %v, 0", guest, got, rolled, e, id, roll)
	}
}

// stands fails the test if it is not that turn, or if a guest beside these has an ID, or one of these another.
func stands(t *testing.T, v *vmid.IDs, turn int, has map[int]int) {
	t.Helper()
	if v.Turn() != turn {
		t.Fatalf("16.2: the turn is %d; want %d", v.Turn(), turn)
	}
	for guest := 1; guest <= api.MaxGuests; guest++ {
		want, ok := has[guest]
		if id, has := v.Has(guest); id != want || has != ok {
			t.Fatalf("16.2: Has(%d): %d, %v; want %d, %v", guest, id, has, want, ok)
		}
	}
	for _, guest := range noGuests {
		if id, has := v.Has(guest); id != 0 || has {
			t.Fatalf("16.2: Has(%d): %d, %v", guest, id, has)
		}
	}
}

func TestNew(t *testing.T) {
	for n := -300; n <= 600; n++ {
		checkNew(t, n)
	}
	for _, n := range noGuests {
		checkNew(t, n)
	}
	for shift := 8; shift < 64; shift++ {
		checkNew(t, 1<<shift)
		checkNew(t, 1<<shift+1)
	}
}

func checkNew(t *testing.T, n int) {
	t.Helper()
	if n >= 1 && n <= 255 {
		stands(t, made(t, n), 0, nil)
		return
	}
	if v, e := vmid.New(n); v != nil || e != api.ErrArg {
		t.Errorf("16.1: New(%d): %v, %d", n, v, e)
	}
}

// TestNewGives: of each number of IDs the last one is given ahead of the first roll, and no greater one.
func TestNewGives(t *testing.T) {
	for n := 1; n <= api.MaxGuests; n++ {
		v := made(t, n)
		for id := 1; id <= n; id++ {
			get(t, v, id, id, false)
		}
		if n == api.MaxGuests {
			break // there is no guest more
		}
		get(t, v, n+1, 1, true)
		stands(t, v, 1, map[int]int{n + 1: 1})
	}
}

// TestGetRefused: what is no guest is refused, and nothing changes by it: with none given, with some, and with all.
func TestGetRefused(t *testing.T) {
	for given := range 4 {
		v, has := made(t, 3), map[int]int{}
		for id := 1; id <= given; id++ {
			get(t, v, 10*id, id, false)
			has[10*id] = id
		}
		for _, guest := range noGuests {
			if id, roll, e := v.Get(guest); id != 0 || roll || e != api.ErrArg {
				t.Errorf("16.2: Get(%d): %d, %v, %d", guest, id, roll, e)
			}
			stands(t, v, 0, has)
		}
		if given < 3 {
			get(t, v, 255, given+1, false)
		} else {
			get(t, v, 255, 1, true)
		}
	}
}

// TestGetOrder: IDs come by the order of the Gets, whatever the guests' numbers are.
func TestGetOrder(t *testing.T) {
	v, has := made(t, 5), map[int]int{}
	for i, guest := range []int{200, 1, 255, 7, 2} {
		stands(t, v, 0, has)
		get(t, v, guest, i+1, false)
		has[guest] = i + 1
		stands(t, v, 0, has)
		for old, id := range has {
			get(t, v, old, id, false)
		}
		stands(t, v, 0, has)
	}
}

// TestGetHas: a guest that has one keeps it when all are given, and the turn does not roll.
func TestGetHas(t *testing.T) {
	v := made(t, 2)
	get(t, v, 9, 1, false)
	get(t, v, 4, 2, false)
	for range 5 {
		get(t, v, 4, 2, false)
		get(t, v, 9, 1, false)
	}
	stands(t, v, 0, map[int]int{9: 1, 4: 2})
}

// TestRoll: one more than there are, again and again.
func TestRoll(t *testing.T) {
	v := made(t, 3)
	get(t, v, 1, 1, false)
	get(t, v, 2, 2, false)
	get(t, v, 3, 3, false)
	stands(t, v, 0, map[int]int{1: 1, 2: 2, 3: 3})
	get(t, v, 4, 1, true)
	stands(t, v, 1, map[int]int{4: 1})
	get(t, v, 4, 1, false)
	get(t, v, 3, 2, false)
	get(t, v, 1, 3, false)
	stands(t, v, 1, map[int]int{4: 1, 3: 2, 1: 3})
	get(t, v, 2, 1, true)
	stands(t, v, 2, map[int]int{2: 1})
}

// TestRollOften: with one ID each Get of another guest rolls.
func TestRollOften(t *testing.T) {
	v := made(t, 1)
	get(t, v, 1, 1, false)
	for turn := 1; turn <= 1000; turn++ {
		guest := turn%api.MaxGuests + 1
		get(t, v, guest, 1, true)
		if id, has := v.Has(guest); id != 1 || !has || v.Turn() != turn {
			t.Fatalf("16.2: Has(%d): %d, %v, turn %d; want turn %d", guest, id, has, v.Turn(), turn)
		}
	}
	stands(t, v, 1000, map[int]int{1000%api.MaxGuests + 1: 1})
}

// TestAllGuests: with MaxGuests IDs the turn rolls only behind a Drop.
func TestAllGuests(t *testing.T) {
	v, has := made(t, api.MaxGuests), map[int]int{}
	for id := 1; id <= api.MaxGuests; id++ {
		get(t, v, api.MaxGuests+1-id, id, false)
		has[api.MaxGuests+1-id] = id
	}
	stands(t, v, 0, has)
	if !v.Drop(100) {
		t.Error("16.2: Drop(100) of a guest that has one")
	}
	delete(has, 100)
	stands(t, v, 0, has)
	get(t, v, 1, 255, false)
	get(t, v, 100, 1, true)
	stands(t, v, 1, map[int]int{100: 1})
}

func TestDrop(t *testing.T) {
	v := made(t, 4)
	dropNone(t, v, map[int]int{})
	get(t, v, 50, 1, false)
	get(t, v, 60, 2, false)
	dropNone(t, v, map[int]int{50: 1, 60: 2})
	if !v.Drop(50) {
		t.Error("16.2: Drop(50) of a guest that has one")
	}
	stands(t, v, 0, map[int]int{60: 2})
	dropNone(t, v, map[int]int{60: 2})
	// The ID 1 is not given again, neither to its old guest nor to another one.
	get(t, v, 70, 3, false)
	get(t, v, 50, 4, false)
	stands(t, v, 0, map[int]int{60: 2, 70: 3, 50: 4})
	dropNone(t, v, map[int]int{60: 2, 70: 3, 50: 4})
	if !v.Drop(50) {
		t.Error("16.2: Drop(50) of a guest that has the last one")
	}
	stands(t, v, 0, map[int]int{60: 2, 70: 3})
	get(t, v, 50, 1, true)
	stands(t, v, 1, map[int]int{50: 1})
	dropNone(t, v, map[int]int{50: 1})
}

// dropNone drops every number that has no ID.
func dropNone(t *testing.T, v *vmid.IDs, has map[int]int) {
	t.Helper()
	turn := v.Turn()
	for guest := 1; guest <= api.MaxGuests; guest++ {
		if _, ok := has[guest]; !ok && v.Drop(guest) {
			t.Errorf("16.2: Drop(%d) of a guest that has none", guest)
		}
	}
	for _, guest := range noGuests {
		if v.Drop(guest) {
			t.Errorf("16.2: Drop(%d) of what is no guest", guest)
		}
	}
	stands(t, v, turn, has)
}

// TestDropAll: when all were given and all are dropped, nobody has one, and the next Get rolls all the same.
func TestDropAll(t *testing.T) {
	for n := 1; n <= 5; n++ {
		v := made(t, n)
		for id := 1; id <= n; id++ {
			get(t, v, 7, id, false)
			if !v.Drop(7) || v.Drop(7) {
				t.Errorf("16.2: Drop(7) tells not once that it had the ID %d", id)
			}
			stands(t, v, 0, nil)
		}
		get(t, v, 7, 1, true)
		stands(t, v, 1, map[int]int{7: 1})
	}
}

// TestApart: what one gives out the other does not know of.
func TestApart(t *testing.T) {
	v, w := made(t, 1), made(t, 1)
	get(t, v, 1, 1, false)
	get(t, v, 2, 1, true)
	stands(t, w, 0, nil)
	get(t, w, 3, 1, false)
	stands(t, v, 1, map[int]int{2: 1})
	if w.Drop(2) || !w.Drop(3) {
		t.Error("16.2: Drop")
	}
	stands(t, v, 1, map[int]int{2: 1})
}

func TestExample(t *testing.T) {
	v := made(t, 1)
	get(t, v, 7, 1, false)
	get(t, v, 8, 1, true)
	if id, has := v.Has(7); id != 0 || has {
		t.Errorf("16.2: Has(7): %d, %v", id, has)
	}
	stands(t, v, 1, map[int]int{8: 1})
}
