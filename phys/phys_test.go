package phys_test

import (
	"bytes"
	"math"
	"math/rand"
	"runtime"
	"slices"
	"testing"

	"demesne/api"
	"demesne/phys"
)

var sizes = []int{1, 2, 4, 8}

// made is a memory of so many frames.
func made(t *testing.T, frames int) *phys.Mem {
	t.Helper()
	m, e := phys.New(frames)
	if e != api.OK || m == nil {
		t.Fatalf("5.1: New(%d): %v, %d", frames, m, e)
	}
	return m
}

// counted is a page with a byte of its own at each place near it, begun at first.
func counted(first int) []byte {
	l := make([]byte, api.FrameSize)
	for i := range l {
		l[i] = byte((first + i) % 251)
	}
	return l
}

// want fails the test if the memory's bytes are not these, by Get, by Read of every size, and by Clear and Same.
func want(t *testing.T, m *phys.Mem, all []byte) {
	t.Helper()
	zero := make([]byte, api.FrameSize)
	for f := range m.Frames() {
		page := all[f*api.FrameSize:][:api.FrameSize]
		if got, e := m.Get(f); e != api.OK || !bytes.Equal(got, page) {
			t.Fatalf("5.2: Get(%d): %d, not the frame's bytes", f, e)
		}
		if m.Clear(f) != bytes.Equal(page, zero) {
			t.Fatalf("5.2: Clear(%d): %t", f, m.Clear(f))
		}
		for g := range m.Frames() {
			if m.Same(f, g) != bytes.Equal(page, all[g*api.FrameSize:][:api.FrameSize]) {
				t.Fatalf("5.2: Same(%d, %d): %t", f, g, m.Same(f, g))
			}
		}
	}
	for _, size := range sizes {
		for at := 0; at < len(all); at += size {
			if v, e := m.Read(uint64(at), size); e != api.OK || v != number(all[at:at+size]) {
				t.Fatalf("5.1: Read(%d, %d): %#x, %d", at, size, v, e)
			}
		}
	}
}

// number is that of the bytes, the lowest first.
func number(l []byte) uint64 {
	var v uint64
	for _, b := range slices.Backward(l) {
		v = v*256 + uint64(b)
	}
	return v
}

// put lays v's low bytes into l, the lowest first.
func put(l []byte, v uint64) {
	for i := range l {
		l[i] = byte(v % 256)
		v /= 256
	}
}

func TestNew(t *testing.T) {
	for _, n := range []int{1, 2, 3, 100, api.MaxFrames - 1, api.MaxFrames} {
		m, e := phys.New(n)
		if e != api.OK || m == nil || m.Frames() != n || m.Ops() != 0 {
			t.Errorf("5.1: New(%d): %d", n, e)
			continue
		}
		for _, f := range []int{0, n / 2, n - 1} {
			if got, e := m.Get(f); e != api.OK || !bytes.Equal(got, make([]byte, api.FrameSize)) || !m.Clear(f) {
				t.Errorf("5.1: New(%d): frame %d is not 0", n, f)
			}
		}
	}
	for _, n := range []int{0, -1, -2, api.MaxFrames + 1, 1 << 32, 1<<32 + 1, math.MaxInt, math.MinInt, math.MinInt + 1} {
		if m, e := phys.New(n); m != nil || e != api.ErrArg {
			t.Errorf("5.1: New(%d): %v, %d", n, m, e)
		}
	}
}

func TestReadWriteRefusals(t *testing.T) {
	for _, frames := range []int{1, 2, 3, api.MaxFrames} {
		m := made(t, frames)
		end := uint64(frames) * api.FrameSize
		addrs := []uint64{0, 1, 2, 3, 4, 7, 8, 9, 4088, 4090, 4092, 4094, 4095, 4096, 1 << 31, 1 << 32, 1<<32 + 1, 1 << 44, 1 << 52, 1 << 63, 1<<63 + 8}
		for d := range uint64(17) {
			addrs = append(addrs, end-d, end+d, math.MaxUint64-d)
		}
		ints := []int{-8, -4, -2, -1, 0, 1, 2, 3, 4, 5, 6, 7, 8, 9, 12, 16, 32, 64, 1<<32 + 1, 1<<32 + 8, math.MaxInt, math.MinInt, math.MinInt + 1}
		for _, addr := range addrs {
			for _, size := range ints {
				e := api.OK
				switch {
				case !slices.Contains(sizes, size):
					e = api.ErrArg
				case addr%uint64(size) != 0:
					e = api.ErrAlign
				case addr >= end:
					e = api.ErrRange
				}
				refused(t, m, addr, size, e)
			}
		}
	}
}

// refused fails the test if a Read and a Write at addr do not answer e, or are counted otherwise than as e tells.
func refused(t *testing.T, m *phys.Mem, addr uint64, size int, e api.Errno) {
	t.Helper()
	step := 0
	if e == api.OK {
		step = 1
	}
	ops := m.Ops()
	if v, got := m.Read(addr, size); got != e || v != 0 {
		t.Errorf("5.1: Read(%d, %d): %d, %d; want 0, %d", addr, size, v, got, e)
	}
	if m.Ops() != ops+step {
		t.Errorf("5.3: Read(%d, %d): Ops %d, then %d", addr, size, ops, m.Ops())
	}
	ops = m.Ops()
	if got := m.Write(addr, size, math.MaxUint64); got != e {
		t.Errorf("5.1: Write(%d, %d): %d; want %d", addr, size, got, e)
	}
	if m.Ops() != ops+step {
		t.Errorf("5.3: Write(%d, %d): Ops %d, then %d", addr, size, ops, m.Ops())
	}
	if e != api.OK {
		for _, f := range []int{0, m.Frames() - 1} {
			if !m.Clear(f) {
				t.Fatalf("5.1: Write(%d, %d) was refused, and frame %d is not 0", addr, size, f)
			}
		}
		return
	}
	if v, got := m.Read(addr, size); got != api.OK || v != math.MaxUint64>>(64-8*size) {
		t.Errorf("5.4: Write(%d, %d): %#x is read, %d", addr, size, v, got)
	}
	m.Write(addr, size, 0)
}

func TestWriteLowBytes(t *testing.T) {
	const v = 0x8877665544332211
	for _, size := range sizes {
		for at := 0; at < 3*api.FrameSize; at += size {
			if at%1024 >= 16 && at%1024 < 1008 {
				continue
			}
			m := made(t, 3)
			all := make([]byte, 3*api.FrameSize)
			for f := range 3 {
				copy(all[f*api.FrameSize:], counted(7*f))
				m.Set(f, counted(7*f))
			}
			put(all[at:at+size], v)
			if e := m.Write(uint64(at), size, v); e != api.OK {
				t.Fatalf("5.1: Write(%d, %d): %d", at, size, e)
			}
			for f := range 3 {
				if got, _ := m.Get(f); !bytes.Equal(got, all[f*api.FrameSize:][:api.FrameSize]) {
					t.Fatalf("5.4: Write(%d, %d): frame %d", at, size, f)
				}
			}
		}
	}
}

func TestGetSet(t *testing.T) {
	m := made(t, 4)
	all := make([]byte, 4*api.FrameSize)
	want(t, m, all)
	room := append(counted(3), 1, 2, 3)
	page := room[:api.FrameSize]
	if e := m.Set(2, page); e != api.OK {
		t.Fatalf("5.2: Set(2): %d", e)
	}
	copy(all[2*api.FrameSize:], page)
	want(t, m, all)
	if !bytes.Equal(room, append(counted(3), 1, 2, 3)) {
		t.Error("5.2: Set changed what it was given")
	}
	clear(room)
	want(t, m, all)
	got, _ := m.Get(2)
	clear(got[:cap(got)])
	want(t, m, all)
	m.Write(2*api.FrameSize, 1, 99)
	all[2*api.FrameSize] = 99
	if !bytes.Equal(got, make([]byte, api.FrameSize)) {
		t.Error("5.2: what Get told follows a later Write")
	}
	want(t, m, all)
	// A frame that was never written is the caller's own, too.
	got, _ = m.Get(1)
	got[0] = 1
	want(t, m, all)
	if e := m.Set(2, make([]byte, api.FrameSize)); e != api.OK || !m.Clear(2) || !m.Same(2, 0) {
		t.Errorf("5.2: Set(2) to noughts: %d", e)
	}
}

func TestFrameRefusals(t *testing.T) {
	for _, frames := range []int{1, 3, api.MaxFrames} {
		m, empty := made(t, frames), made(t, frames)
		m.Set(0, counted(1))
		m.Set(frames-1, counted(1))
		for _, f := range []int{-1, -2, frames, frames + 1, api.MaxFrames, 1 << 32, 1<<52 - 1, math.MaxInt, math.MinInt, math.MinInt + 1} {
			if l, e := m.Get(f); len(l) != 0 || e != api.ErrRange {
				t.Errorf("5.2: Get(%d) of %d: %d bytes, %d", f, frames, len(l), e)
			}
			for _, n := range []int{0, 4095, 4096, 4097} {
				if e := m.Set(f, make([]byte, n)); e != api.ErrRange {
					t.Errorf("5.2: Set(%d) of %d, %d bytes: %d", f, frames, n, e)
				}
			}
			if e := m.Zero(f); e != api.ErrRange {
				t.Errorf("5.2: Zero(%d) of %d: %d", f, frames, e)
			}
			if m.Clear(f) || m.Same(f, f) || m.Same(f, 0) || m.Same(0, f) {
				t.Errorf("5.2: Clear or Same of frame %d of %d", f, frames)
			}
			if empty.Clear(f) || empty.Same(f, f) || empty.Same(f, 0) || empty.Same(0, f) {
				t.Errorf("5.2: Clear or Same of frame %d of %d that are 0", f, frames)
			}
		}
		for _, n := range []int{0, 1, 4095, 4097, 8192} {
			if e := m.Set(0, make([]byte, n)); e != api.ErrArg {
				t.Errorf("5.2: Set(0) of %d bytes: %d", n, e)
			}
		}
		if e := m.Set(0, nil); e != api.ErrArg {
			t.Errorf("5.2: Set(0, nil): %d", e)
		}
		for _, f := range []int{0, frames - 1} {
			if got, e := m.Get(f); e != api.OK || !bytes.Equal(got, counted(1)) {
				t.Errorf("5.2: a refusal changed frame %d of %d", f, frames)
			}
		}
		if m.Ops() != 0 {
			t.Errorf("5.3: Ops %d, without a Read or a Write", m.Ops())
		}
	}
}

func TestZeroClearSame(t *testing.T) {
	m := made(t, 3)
	all := make([]byte, 3*api.FrameSize)
	m.Set(1, counted(5))
	m.Set(2, counted(5))
	copy(all[api.FrameSize:], counted(5))
	copy(all[2*api.FrameSize:], counted(5))
	want(t, m, all)
	if e := m.Zero(1); e != api.OK {
		t.Errorf("5.2: Zero(1): %d", e)
	}
	clear(all[api.FrameSize : 2*api.FrameSize])
	want(t, m, all)
	if e := m.Zero(0); e != api.OK {
		t.Errorf("5.2: Zero(0): %d", e)
	}
	want(t, m, all)
	// One byte makes the difference, wherever it is.
	for at := range uint64(api.FrameSize) {
		m.Write(at, 1, 1)
		if m.Clear(0) || m.Same(0, 1) || m.Same(1, 0) || !m.Same(0, 0) {
			t.Fatalf("5.2: Clear, Same: byte %d is not 0", at)
		}
		m.Write(api.FrameSize+at, 1, 1)
		if !m.Same(0, 1) || m.Same(0, 2) {
			t.Fatalf("5.2: Same: byte %d of both", at)
		}
		m.Write(api.FrameSize+at, 1, 2)
		if m.Same(0, 1) {
			t.Fatalf("5.2: Same: byte %d differs", at)
		}
		m.Write(at, 1, 0)
		m.Write(api.FrameSize+at, 1, 0)
		if !m.Clear(0) || !m.Same(0, 1) {
			t.Fatalf("5.2: Clear, Same: byte %d is 0 again", at)
		}
	}
}

func TestOps(t *testing.T) {
	m := made(t, 2)
	page := counted(1)
	for i := range 100 {
		m.Read(uint64(8*i), 8)
		m.Write(uint64(4096+i), 1, uint64(i))
		m.Get(1)
		m.Set(0, page)
		m.Zero(1)
		m.Clear(1)
		m.Same(0, 1)
		m.Frames()
		m.Read(8192, 1)
		m.Write(1, 2, 0)
		m.Write(0, 3, 0)
		if m.Ops() != 2*(i+1) || m.Ops() != 2*(i+1) {
			t.Fatalf("5.3: Ops %d after %d Reads and Writes", m.Ops(), 2*(i+1))
		}
	}
}

// TestModel holds a memory, through many steps of all kinds, against one list of bytes.
func TestModel(t *testing.T) {
	const frames = 3
	r := rand.New(rand.NewSource(5))
	m, other := made(t, frames), made(t, frames)
	all := make([]byte, frames*api.FrameSize)
	for i := range 4000 {
		f := r.Intn(frames)
		page := all[f*api.FrameSize:][:api.FrameSize]
		switch r.Intn(20) {
		case 0:
			m.Zero(f)
			clear(page)
		case 1:
			l := counted(r.Intn(3))
			m.Set(f, l)
			copy(page, l)
		case 2:
			l, _ := m.Get(r.Intn(frames))
			m.Set(f, l)
			copy(page, l)
		default:
			size := sizes[r.Intn(4)]
			at := r.Intn(8) * size
			if r.Intn(2) == 0 {
				at = len(page) - size - at
			}
			v := r.Uint64() & -uint64(r.Intn(2))
			if e := m.Write(uint64(f*api.FrameSize+at), size, v); e != api.OK {
				t.Fatalf("5.1: Write(%d, %d): %d", f*api.FrameSize+at, size, e)
			}
			put(page[at:at+size], v)
		}
		if i%40 == 0 {
			want(t, m, all)
		}
	}
	want(t, m, all)
	want(t, other, make([]byte, len(all)))
}

// heap is how many bytes live.
func heap() uint64 {
	runtime.GC()
	var s runtime.MemStats
	runtime.ReadMemStats(&s)
	return s.HeapAlloc
}

func TestLight(t *testing.T) {
	const most = 8 << 20
	before := heap()
	m := made(t, api.MaxFrames)
	if now := heap(); now > before+1<<16 {
		t.Errorf("5.1: a memory of 2^20 frames takes %d bytes", now-before)
	}
	page := counted(1)
	for f := range 1 << 14 {
		addr := uint64(f) * api.FrameSize * 64
		m.Write(addr, 8, 0)
		m.Read(addr+4096, 8)
		m.Get(f)
		m.Write(addr, 8, 1)
		m.Write(addr, 1, 0)
		m.Set(f, page)
		m.Zero(f)
		m.Set(f, page)
		m.Set(f, page[:0:0])
		m.Set(f, make([]byte, api.FrameSize))
	}
	if now := heap(); now > before+most {
		t.Errorf("5.2: frames that are 0 take %d bytes", now-before)
	}
	if !m.Clear(0) {
		t.Error("5.2: Clear(0)")
	}
}

func TestExamples(t *testing.T) {
	m := made(t, 2)
	if v, e := m.Read(8192, 1); v != 0 || e != api.ErrRange {
		t.Errorf("5.1: Read(8192, 1): %d, %d", v, e)
	}
	if v, e := m.Read(4090, 4); v != 0 || e != api.ErrAlign {
		t.Errorf("5.1: Read(4090, 4): %d, %d", v, e)
	}
}
