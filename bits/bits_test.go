package bits_test

import (
	"bytes"
	"encoding/binary"
	"math"
	"math/rand"
	"slices"
	"testing"

	"demesne/api"
	"demesne/bits"
)

var sizes = []int{1, 2, 4, 8}

// edgeInts are ints of all kinds, the least and the greatest among them.
func edgeInts() []int {
	l := []int{math.MinInt, math.MinInt + 1, math.MinInt + 8, math.MaxInt - 7, math.MaxInt - 1, math.MaxInt}
	l = append(l, -1<<33, 1<<32, 1<<32+1, 1<<32+8)
	for i := -20; i <= 140; i++ {
		l = append(l, i)
	}
	return l
}

// edgeWords are words of all kinds.
func edgeWords() []uint64 {
	l := []uint64{0, 1, math.MaxUint64, math.MaxUint64 - 1, 1 << 63, 0xFEDCBA9876543210, 0x8001800180018001}
	r := rand.New(rand.NewSource(4))
	for range 20 {
		l = append(l, r.Uint64())
	}
	return l
}

// counted is n bytes, no two of them alike, none of them 0, the first of them the greatest.
func counted(n int) []byte {
	l := make([]byte, n)
	for i := range l {
		l[i] = byte(255 - i)
	}
	return l
}

// refusal is what a number of size bytes at at among length bytes must be refused with.
func refusal(length, at, size int) api.Errno {
	switch {
	case !slices.Contains(sizes, size):
		return api.ErrArg
	case at%size != 0:
		return api.ErrAlign
	case at < 0 || at >= length || length-at < size:
		return api.ErrRange
	}
	return api.OK
}

// numberAt reads a number by the library's means.
func numberAt(b []byte, at, size int) uint64 {
	wide := make([]byte, 8)
	copy(wide, b[at:at+size])
	return binary.LittleEndian.Uint64(wide)
}

func TestGetExamples(t *testing.T) {
	b := []byte{1, 2, 3, 4}
	if v, e := bits.Get(b, 2, 2); v != 0x0403 || e != api.OK {
		t.Errorf("4.1: Get(01 02 03 04, 2, 2): %#x, %d", v, e)
	}
	if v, e := bits.Get(b, 1, 2); v != 0 || e != api.ErrAlign {
		t.Errorf("4.1: Get(01 02 03 04, 1, 2): %#x, %d", v, e)
	}
}

func TestGetEverywhere(t *testing.T) {
	for length := range 20 {
		b := counted(length)
		for _, at := range edgeInts() {
			for _, size := range edgeInts() {
				want, wantErr := uint64(0), refusal(length, at, size)
				if wantErr == api.OK {
					want = numberAt(b, at, size)
				}
				if v, e := bits.Get(b, at, size); v != want || e != wantErr {
					t.Fatalf("4.1: Get of %d bytes, %d, %d: %#x, %d, not %#x, %d", length, at, size, v, e, want, wantErr)
				}
			}
		}
		if !bytes.Equal(b, counted(length)) {
			t.Fatalf("4.1: Get changed its %d bytes", length)
		}
	}
}

func TestPutEverywhere(t *testing.T) {
	const v = 0x0123456789ABCDEF
	for length := range 20 {
		b := counted(length)
		for _, at := range edgeInts() {
			for _, size := range edgeInts() {
				var want []byte
				wantErr := refusal(length, at, size)
				if wantErr == api.OK {
					want = counted(length)
					copy(want[at:at+size], binary.LittleEndian.AppendUint64(nil, v))
				}
				if l, e := bits.Put(b, at, size, v); !bytes.Equal(l, want) || e != wantErr {
					t.Fatalf("4.1: Put in %d bytes, %d, %d: %x, %d, not %x, %d", length, at, size, l, e, want, wantErr)
				}
			}
		}
		if !bytes.Equal(b, counted(length)) {
			t.Fatalf("4.1: Put changed its %d bytes", length)
		}
	}
}

func TestNoBytes(t *testing.T) {
	for _, c := range []struct {
		at, size int
		e        api.Errno
	}{{0, 1, api.ErrRange}, {0, 8, api.ErrRange}, {-1, 1, api.ErrRange}, {1, 8, api.ErrAlign}, {1, 3, api.ErrArg}, {0, 0, api.ErrArg}} {
		if v, e := bits.Get(nil, c.at, c.size); v != 0 || e != c.e {
			t.Errorf("4.1: Get(nil, %d, %d): %d, %d", c.at, c.size, v, e)
		}
		if l, e := bits.Put(nil, c.at, c.size, 7); len(l) != 0 || e != c.e {
			t.Errorf("4.1: Put(nil, %d, %d, 7): %v, %d", c.at, c.size, l, e)
		}
	}
}

func TestRefusalsInOrder(t *testing.T) {
	b := counted(4)
	for _, c := range []struct {
		name     string
		at, size int
		e        api.Errno
	}{
		{"a wrong size, no multiple, no bytes", 100, 3, api.ErrArg},
		{"no multiple, no bytes", 101, 4, api.ErrAlign},
		{"no multiple, below", -1, 4, api.ErrAlign},
		{"no multiple, bytes", 3, 2, api.ErrAlign},
		{"no bytes", 100, 4, api.ErrRange},
		{"some of the bytes", 0, 8, api.ErrRange},
		{"below", -4, 4, api.ErrRange},
	} {
		if _, e := bits.Get(b, c.at, c.size); e != c.e {
			t.Errorf("4.1: Get, %s: %d", c.name, e)
		}
		if _, e := bits.Put(b, c.at, c.size, 1); e != c.e {
			t.Errorf("4.1: Put, %s: %d", c.name, e)
		}
	}
}

func TestBytesBeyondLength(t *testing.T) {
	b := counted(16)[:8]
	if v, e := bits.Get(b, 8, 8); v != 0 || e != api.ErrRange {
		t.Errorf("4.1: Get beyond the length: %#x, %d", v, e)
	}
	if l, e := bits.Put(b, 8, 8, 1); len(l) != 0 || e != api.ErrRange {
		t.Errorf("4.1: Put beyond the length: %v, %d", l, e)
	}
}

func TestPutIsNewMemory(t *testing.T) {
	b := counted(16)
	l, _ := bits.Put(b[:8], 0, 8, 0)
	l = append(l[:8], 1, 2, 3)
	if !bytes.Equal(b, counted(16)) {
		t.Errorf("4.1: Put's answer shares memory with what was handed in: %v", b)
	}
	b[0] = 9
	if l[0] != 0 {
		t.Error("4.1: Put's answer follows what was handed in")
	}
}

// fieldBits is the field, and w with v's bits there, taken bit by bit.
func fieldBits(w uint64, low, n int, v uint64) (field, set uint64) {
	set = w
	for i := range n {
		place := uint64(1) << (low + i)
		if w&place != 0 {
			field += 1 << i
		}
		set &^= place
		if v&(1<<i) != 0 {
			set |= place
		}
	}
	return field, set
}

func TestFieldsInWord(t *testing.T) {
	for _, w := range edgeWords() {
		for low := range 64 {
			for n := 1; low+n <= 64; n++ {
				for _, v := range []uint64{0, 1, math.MaxUint64, 0xA5A5A5A5A5A5A5A5, ^w} {
					field, set := fieldBits(w, low, n, v)
					if got := bits.Field(w, low, n); got != field {
						t.Fatalf("4.2: Field(%#x, %d, %d): %#x, not %#x", w, low, n, got, field)
					}
					if got := bits.Set(w, low, n, v); got != set {
						t.Fatalf("4.2: Set(%#x, %d, %d, %#x): %#x, not %#x", w, low, n, v, got, set)
					}
				}
			}
		}
	}
}

func TestFieldsOutside(t *testing.T) {
	const w = 0xFEDCBA9876543210
	for _, low := range edgeInts() {
		for _, n := range edgeInts() {
			if low >= 0 && low < 64 && n >= 1 && n <= 64 && low+n <= 64 {
				continue
			}
			if got := bits.Field(w, low, n); got != 0 {
				t.Errorf("4.2: Field(w, %d, %d): %#x", low, n, got)
			}
			for _, v := range []uint64{0, math.MaxUint64} {
				if got := bits.Set(w, low, n, v); got != w {
					t.Errorf("4.2: Set(w, %d, %d, %#x): %#x", low, n, v, got)
				}
			}
		}
	}
}

func TestIndexExamples(t *testing.T) {
	const addr = 1<<39 + 1<<12
	for level, want := range []int{1, 0, 0, 1} {
		if got := bits.Index(addr, level); got != want {
			t.Errorf("4.3: Index(2^39 + 2^12, %d): %d", level, got)
		}
	}
}

func TestIndexBitByBit(t *testing.T) {
	lowest := []int{39, 30, 21, 12}
	for bit := range 64 {
		for level, low := range lowest {
			want := 0
			if bit >= low && bit < low+9 {
				want = 1 << (bit - low)
			}
			if got := bits.Index(1<<bit, level); got != want {
				t.Errorf("4.3: Index(2^%d, %d): %d, not %d", bit, level, got, want)
			}
			if got := bits.Index(^uint64(1<<bit), level); got != 511-want {
				t.Errorf("4.3: Index(all but 2^%d, %d): %d, not %d", bit, level, got, 511-want)
			}
		}
	}
}

func TestSpans(t *testing.T) {
	for level, want := range []uint64{1 << 39, 1 << 30, 1 << 21, 1 << 12} {
		if got := bits.Span(level); got != want {
			t.Errorf("4.3: Span(%d): %d, not %d", level, got, want)
		}
	}
}

func TestNoLevel(t *testing.T) {
	for _, level := range edgeInts() {
		if level >= 0 && level <= 3 {
			continue
		}
		if got := bits.Index(math.MaxUint64, level); got != 0 {
			t.Errorf("4.3: Index(all, %d): %d", level, got)
		}
		if got := bits.Span(level); got != 0 {
			t.Errorf("4.3: Span(%d): %d", level, got)
		}
	}
}

func TestPutIsGot(t *testing.T) {
	for _, size := range sizes {
		for at := 0; at+size <= 24; at += size {
			for _, v := range edgeWords() {
				b := counted(24)
				l, e := bits.Put(b, at, size, v)
				if e != api.OK {
					t.Fatalf("4.4: Put(b, %d, %d, %#x): %d", at, size, v, e)
				}
				if got, e := bits.Get(l, at, size); got != bits.Field(v, 0, 8*size) || e != api.OK {
					t.Fatalf("4.4: Put(b, %d, %d, %#x), then Get: %#x, %d", at, size, v, got, e)
				}
				if !bytes.Equal(l[:at], b[:at]) || !bytes.Equal(l[at+size:], b[at+size:]) {
					t.Fatalf("4.4: Put(b, %d, %d, %#x) touched other bytes: %x", at, size, v, l)
				}
			}
		}
	}
}

func TestAddressFromIndices(t *testing.T) {
	for _, addr := range edgeWords() {
		sum := bits.Field(addr, 0, 12)
		for level := range 4 {
			sum += uint64(bits.Index(addr, level)) * bits.Span(level)
		}
		if sum != addr&(1<<48-1) {
			t.Errorf("4.4: of %#x the indices make %#x", addr, sum)
		}
	}
}
