package disk_test

import (
	"bytes"
	"math"
	"math/rand"
	"slices"
	"testing"

	"demesne/api"
	"demesne/disk"
)

// oddSlots are numbers that are no slot's of any device.
var oddSlots = []int{-1, -2, api.MaxSlots, api.MaxSlots + 1, 1 << 32, 1<<32 + 1, -1 << 32, math.MaxInt, math.MinInt, math.MinInt + 1}

var empty = make([]byte, api.FrameSize)

// made is a device of so many slots, the first few of which are taken.
func made(t *testing.T, slots, taken int) *disk.Disk {
	t.Helper()
	d, e := disk.New(slots)
	if e != api.OK || d == nil {
		t.Fatalf("6.1: New(%d): %v, %d", slots, d, e)
	}
	for want := range taken {
		if s, e := d.Take(); s != want || e != api.OK {
			t.Fatalf("6.1: Take: %d, %d; want %d", s, e, want)
		}
	}
	return d
}

// counted is a page with a byte of its own at each place near it, begun at first.
func counted(first int) []byte {
	l := make([]byte, api.FrameSize)
	for i := range l {
		l[i] = byte((first + i) % 251)
	}
	return l
}

// write fails the test if a Write does not answer e.
func write(t *testing.T, d *disk.Disk, slot int, page []byte, e api.Errno) {
	t.Helper()
	if got := d.Write(slot, page); got != e {
		t.Fatalf("6.2: Write(%d) of %d bytes: %d; want %d", slot, len(page), got, e)
	}
}

// read fails the test if a Read does not answer these bytes and e.
func read(t *testing.T, d *disk.Disk, slot int, page []byte, e api.Errno) {
	t.Helper()
	if got, err := d.Read(slot); err != e || !bytes.Equal(got, page) {
		t.Fatalf("6.2: Read(%d): %d bytes, %d; want %d, %d, or the bytes are others", slot, len(got), err, len(page), e)
	}
}

// told fails the test if not so many slots are free and not so many Reads and Writes are told ahead.
func told(t *testing.T, d *disk.Disk, free, left int) {
	t.Helper()
	if d.Free() != free || d.Left() != left {
		t.Fatalf("6.1, 6.2: Free %d, Left %d; want %d, %d", d.Free(), d.Left(), free, left)
	}
}

func TestNew(t *testing.T) {
	for _, n := range []int{0, 1, 2, 3, 100, api.MaxSlots - 1, api.MaxSlots} {
		d := made(t, n, 0)
		told(t, d, n, 0)
		for s := range n {
			if got, e := d.Take(); got != s || e != api.OK || d.Free() != n-s-1 {
				t.Fatalf("6.1: New(%d): Take: %d, %d, then Free %d", n, got, e, d.Free())
			}
		}
		if got, e := d.Take(); got != 0 || e != api.ErrSlot {
			t.Errorf("6.1: New(%d): Take when none is free: %d, %d", n, got, e)
		}
		told(t, d, 0, 0)
	}
	for _, n := range []int{-1, -2, api.MaxSlots + 1, 1 << 32, 1<<32 + 1, math.MaxInt, math.MinInt, math.MinInt + 1} {
		if d, e := disk.New(n); d != nil || e != api.ErrArg {
			t.Errorf("6.1: New(%d): %v, %d", n, d, e)
		}
	}
}

func TestTakeIsLeast(t *testing.T) {
	d := made(t, 6, 6)
	for _, s := range []int{4, 1, 5, 2} {
		if e := d.Give(s); e != api.OK {
			t.Errorf("6.1: Give(%d): %d", s, e)
		}
	}
	told(t, d, 4, 0)
	for i, want := range []int{1, 2, 4, 5} {
		if s, e := d.Take(); s != want || e != api.OK {
			t.Errorf("6.1: Take: %d, %d; want %d", s, e, want)
		}
		told(t, d, 3-i, 0)
	}
	if s, e := d.Take(); s != 0 || e != api.ErrSlot {
		t.Errorf("6.1: Take when none is free: %d, %d", s, e)
	}
}

func TestTakenIsZero(t *testing.T) {
	d := made(t, 2, 2)
	read(t, d, 0, empty, api.OK)
	read(t, d, 1, empty, api.OK)
	write(t, d, 0, counted(1), api.OK)
	write(t, d, 1, counted(2), api.OK)
	if e := d.Give(0); e != api.OK {
		t.Errorf("6.1: Give(0): %d", e)
	}
	read(t, d, 0, nil, api.ErrNone)
	if s, e := d.Take(); s != 0 || e != api.OK {
		t.Errorf("6.1: Take: %d, %d", s, e)
	}
	read(t, d, 0, empty, api.OK)
	read(t, d, 1, counted(2), api.OK)
}

func TestGiveRefusals(t *testing.T) {
	d := made(t, 4, 2)
	for _, s := range append([]int{2, 3, 4, 5}, oddSlots...) {
		if e := d.Give(s); e != api.ErrNone {
			t.Errorf("6.1: Give(%d): %d", s, e)
		}
		told(t, d, 2, 0)
	}
	if e := d.Give(1); e != api.OK {
		t.Errorf("6.1: Give(1): %d", e)
	}
	if e := d.Give(1); e != api.ErrNone {
		t.Errorf("6.1: Give(1), which is free: %d", e)
	}
	told(t, d, 3, 0)
}

func TestReadWriteRefusals(t *testing.T) {
	d := made(t, 4, 2)
	write(t, d, 0, counted(5), api.OK)
	d.Fail([]bool{true, true})
	sizes := []int{0, 1, 8, api.FrameSize - 1, api.FrameSize + 1, 2 * api.FrameSize}
	for _, s := range append([]int{2, 3, 4, 5}, oddSlots...) {
		read(t, d, s, nil, api.ErrNone)
		write(t, d, s, counted(1), api.ErrNone)
		write(t, d, s, nil, api.ErrNone)
		for _, n := range sizes {
			write(t, d, s, make([]byte, n), api.ErrNone)
		}
	}
	for s := range 2 {
		write(t, d, s, nil, api.ErrArg)
		for _, n := range sizes {
			write(t, d, s, make([]byte, n, 3*api.FrameSize), api.ErrArg)
		}
	}
	told(t, d, 2, 2)
	d.Fail(nil)
	read(t, d, 0, counted(5), api.OK)
	read(t, d, 1, empty, api.OK)
}

func TestFailsOneByOne(t *testing.T) {
	d := made(t, 2, 1)
	l := []bool{true, false, true, false, false, true, true}
	d.Fail(l)
	clear(l)
	told(t, d, 1, 7)
	write(t, d, 0, counted(1), api.ErrIO)
	told(t, d, 1, 6)
	read(t, d, 0, empty, api.OK)
	told(t, d, 1, 5)
	read(t, d, 0, nil, api.ErrIO)
	told(t, d, 1, 4)
	write(t, d, 0, counted(2), api.OK)
	told(t, d, 1, 3)
	read(t, d, 0, counted(2), api.OK)
	told(t, d, 1, 2)
	write(t, d, 0, counted(3), api.ErrIO)
	told(t, d, 1, 1)
	read(t, d, 0, nil, api.ErrIO)
	for range 3 {
		told(t, d, 1, 0)
		read(t, d, 0, counted(2), api.OK)
		write(t, d, 0, counted(2), api.OK)
	}
}

func TestOnlyReadsAndWritesUseUp(t *testing.T) {
	d := made(t, 2, 1)
	d.Fail([]bool{true})
	if s, e := d.Take(); s != 1 || e != api.OK {
		t.Errorf("6.2: Take: %d, %d", s, e)
	}
	if s, e := d.Take(); s != 0 || e != api.ErrSlot {
		t.Errorf("6.2: Take when none is free: %d, %d", s, e)
	}
	if e := d.Give(1); e != api.OK {
		t.Errorf("6.2: Give(1): %d", e)
	}
	told(t, d, 1, 1)
	read(t, d, 0, nil, api.ErrIO)
	told(t, d, 1, 0)
}

func TestFailForgetsTheElder(t *testing.T) {
	d := made(t, 1, 1)
	for _, l := range [][]bool{nil, {}, {false}, {false, true}} {
		d.Fail([]bool{true, true, true})
		read(t, d, 0, nil, api.ErrIO)
		d.Fail(l)
		told(t, d, 0, len(l))
		for _, fails := range l {
			if fails {
				read(t, d, 0, nil, api.ErrIO)
			} else {
				read(t, d, 0, empty, api.OK)
			}
		}
		told(t, d, 0, 0)
		read(t, d, 0, empty, api.OK)
	}
}

func TestMemoryIsTheCallers(t *testing.T) {
	d := made(t, 2, 2)
	room := append(counted(7), 1, 2, 3)
	page := room[:api.FrameSize]
	write(t, d, 0, page, api.OK)
	if !bytes.Equal(room, append(counted(7), 1, 2, 3)) {
		t.Error("6.3: Write changed what it was given")
	}
	clear(page)
	read(t, d, 0, counted(7), api.OK)
	got, _ := d.Read(0)
	clear(got[:cap(got)])
	read(t, d, 0, counted(7), api.OK)
	got, _ = d.Read(0)
	write(t, d, 0, counted(9), api.OK)
	if !bytes.Equal(got, counted(7)) {
		t.Error("6.3: a Write changed what an elder Read told")
	}

	l := append([]bool{true, false}, true, true)
	d.Fail(l[:2])
	read(t, d, 0, nil, api.ErrIO)
	l[1] = true
	read(t, d, 0, counted(9), api.OK)
	read(t, d, 0, counted(9), api.OK)
	if !slices.Equal(l, []bool{true, true, true, true}) {
		t.Error("6.2: Fail changed what it was given")
	}
}

func TestDevicesAreApart(t *testing.T) {
	a, b := made(t, 2, 1), made(t, 2, 1)
	a.Fail([]bool{true})
	write(t, b, 0, counted(1), api.OK)
	told(t, a, 1, 1)
	a.Fail(nil)
	read(t, a, 0, empty, api.OK)
	read(t, b, 0, counted(1), api.OK)
}

// plain is a device as the chapter tells it, slot by slot.
type plain struct {
	pages [][]byte
	fails []bool
}

func (p *plain) has(slot int) bool {
	return slot >= 0 && slot < len(p.pages) && p.pages[slot] != nil
}

// next tells whether the Read or Write at hand fails.
func (p *plain) next() bool {
	if len(p.fails) == 0 {
		return false
	}
	fails := p.fails[0]
	p.fails = p.fails[1:]
	return fails
}

func (p *plain) take() (int, api.Errno) {
	for s, page := range p.pages {
		if page == nil {
			p.pages[s] = empty
			return s, api.OK
		}
	}
	return 0, api.ErrSlot
}

func (p *plain) give(slot int) api.Errno {
	if !p.has(slot) {
		return api.ErrNone
	}
	p.pages[slot] = nil
	return api.OK
}

func (p *plain) write(slot int, page []byte) api.Errno {
	switch {
	case !p.has(slot):
		return api.ErrNone
	case len(page) != api.FrameSize:
		return api.ErrArg
	case p.next():
		return api.ErrIO
	}
	p.pages[slot] = page
	return api.OK
}

func (p *plain) read(slot int) ([]byte, api.Errno) {
	switch {
	case !p.has(slot):
		return nil, api.ErrNone
	case p.next():
		return nil, api.ErrIO
	}
	return p.pages[slot], api.OK
}

func (p *plain) free() int {
	n := 0
	for _, page := range p.pages {
		if page == nil {
			n++
		}
	}
	return n
}

func TestAgainstPlain(t *testing.T) {
	r := rand.New(rand.NewSource(6))
	for range 60 {
		n := r.Intn(9)
		d, p := made(t, n, 0), &plain{pages: make([][]byte, n)}
		for range 400 {
			step(t, r, d, p, r.Intn(n+3)-1)
			told(t, d, p.free(), len(p.fails))
		}
		d.Fail(nil)
		p.fails = nil
		for s := range n {
			page, e := p.read(s)
			read(t, d, s, page, e)
			read(t, d, s, page, e)
		}
	}
}

// step does one thing with both devices, and fails the test if they do not answer alike.
func step(t *testing.T, r *rand.Rand, d *disk.Disk, p *plain, slot int) {
	t.Helper()
	switch r.Intn(9) {
	case 0, 1:
		want, wantErr := p.take()
		if got, e := d.Take(); got != want || e != wantErr {
			t.Fatalf("6.1: Take: %d, %d; want %d, %d", got, e, want, wantErr)
		}
	case 2:
		want := p.give(slot)
		if e := d.Give(slot); e != want {
			t.Fatalf("6.1: Give(%d): %d; want %d", slot, e, want)
		}
	case 3:
		l := make([]bool, r.Intn(6))
		for i := range l {
			l[i] = r.Intn(2) == 0
		}
		d.Fail(l)
		p.fails = l
	case 4, 5, 6:
		page := counted(r.Intn(251))
		if r.Intn(5) == 0 {
			page = page[:r.Intn(api.FrameSize)]
		}
		write(t, d, slot, page, p.write(slot, page))
	default:
		page, e := p.read(slot)
		read(t, d, slot, page, e)
	}
}
