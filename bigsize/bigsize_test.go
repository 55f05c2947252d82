package bigsize

import (
	"bytes"
	"math"
	"slices"
	"testing"

	"damson/api"
)

// edges are the numbers at which the count of octets changes, with the octets that the chapter asks for.
var edges = []struct {
	n uint64
	b []byte
}{
	{0, []byte{0}},
	{1, []byte{1}},
	{251, []byte{251}},
	{252, []byte{252}},
	{253, []byte{253, 0, 253}},
	{254, []byte{253, 0, 254}},
	{255, []byte{253, 0, 255}},
	{256, []byte{253, 1, 0}},
	{0x1234, []byte{253, 0x12, 0x34}},
	{65535, []byte{253, 255, 255}},
	{65536, []byte{254, 0, 1, 0, 0}},
	{0x12345678, []byte{254, 0x12, 0x34, 0x56, 0x78}},
	{1<<32 - 1, []byte{254, 255, 255, 255, 255}},
	{1 << 32, []byte{255, 0, 0, 0, 1, 0, 0, 0, 0}},
	{0x0123456789abcdef, []byte{255, 0x01, 0x23, 0x45, 0x67, 0x89, 0xab, 0xcd, 0xef}},
	{1 << 63, []byte{255, 128, 0, 0, 0, 0, 0, 0, 0}},
	{math.MaxUint64, []byte{255, 255, 255, 255, 255, 255, 255, 255, 255}},
}

// overlong are octets that could be written with fewer, up to the greatest of each count.
var overlong = [][]byte{
	{253, 0, 0},
	{253, 0, 1},
	{253, 0, 252},
	{254, 0, 0, 0, 0},
	{254, 0, 0, 0, 252},
	{254, 0, 0, 0, 253},
	{254, 0, 0, 255, 255},
	{255, 0, 0, 0, 0, 0, 0, 0, 0},
	{255, 0, 0, 0, 0, 0, 0, 0, 252},
	{255, 0, 0, 0, 0, 0, 0, 0, 253},
	{255, 0, 0, 0, 0, 0, 0, 255, 255},
	{255, 0, 0, 0, 0, 0, 1, 0, 0},
	{255, 0, 0, 0, 0, 255, 255, 255, 255},
}

// near are numbers of all sizes: some at each power of two, and a row through the small ones.
func near() []uint64 {
	var l []uint64
	for n := range uint64(70000) {
		l = append(l, n)
	}
	for bit := 17; bit < 64; bit++ {
		p := uint64(1) << bit
		l = append(l, p-2, p-1, p, p+1, p+p/3)
	}
	return append(l, math.MaxUint64-1, math.MaxUint64)
}

func wantGet(t *testing.T, b []byte, n uint64, size int, e api.Errno) {
	t.Helper()
	gotN, gotSize, gotE := Get(b)
	if gotN != n || gotSize != size || gotE != e {
		t.Errorf("Get(%v) = %d, %d, %d; want %d, %d, %d", b, gotN, gotSize, gotE, n, size, e)
	}
}

func wantAll(t *testing.T, b []byte, l []uint64, e api.Errno) {
	t.Helper()
	got, gotE := All(b)
	if !slices.Equal(got, l) || gotE != e {
		t.Errorf("All of %d octets = %d numbers, %d; want %d numbers, %d", len(b), len(got), gotE, len(l), e)
	}
}

// P1.1
func TestPutOne(t *testing.T) {
	for _, x := range edges {
		if b := Put(x.n); !bytes.Equal(b, x.b) {
			t.Errorf("Put(%d) = %v; want %v", x.n, b, x.b)
		}
	}
}

// P1.1
func TestPutMany(t *testing.T) {
	if b := Put(); len(b) != 0 {
		t.Errorf("Put() = %v", b)
	}
	if b := Put(nil...); len(b) != 0 {
		t.Errorf("Put(nil...) = %v", b)
	}
	var l []uint64
	var want []byte
	for _, x := range edges {
		l = append(l, x.n)
		want = append(want, x.b...)
	}
	if b := Put(l...); !bytes.Equal(b, want) {
		t.Errorf("Put of all edges = %v; want %v", b, want)
	}
	if b := Put(5, 5, 253, 5); !bytes.Equal(b, []byte{5, 5, 253, 0, 253, 5}) {
		t.Errorf("Put(5, 5, 253, 5) = %v", b)
	}
	// Put itself has no bound: one above MaxText must still come out whole.
	if b := Put(make([]uint64, api.MaxText+1)...); !bytes.Equal(b, make([]byte, api.MaxText+1)) {
		t.Errorf("Put of %d zeros has %d octets", api.MaxText+1, len(b))
	}
}

// P1.1
func TestSize(t *testing.T) {
	for _, x := range edges {
		if k := Size(x.n); k != len(x.b) {
			t.Errorf("Size(%d) = %d; want %d", x.n, k, len(x.b))
		}
	}
	for _, n := range near() {
		if k := Size(n); k != len(Put(n)) {
			t.Errorf("Size(%d) = %d, but Put has %d octets", n, k, len(Put(n)))
		}
	}
}

// P1.2
func TestGet(t *testing.T) {
	for _, x := range edges {
		wantGet(t, x.b, x.n, len(x.b), api.OK)
		wantGet(t, append(slices.Clone(x.b), 255, 0, 7), x.n, len(x.b), api.OK)
	}
	for f := range 253 {
		wantGet(t, []byte{byte(f)}, uint64(f), 1, api.OK)
	}
}

// P1.2
func TestGetAllOfTwoOctets(t *testing.T) {
	for n := range 1 << 16 {
		b := []byte{253, byte(n >> 8), byte(n)}
		if n < 253 {
			wantGet(t, b, 0, 0, api.ErrForm)
		} else {
			wantGet(t, b, uint64(n), 3, api.OK)
		}
	}
}

// P1.2
func TestGetShort(t *testing.T) {
	wantGet(t, nil, 0, 0, api.ErrShort)
	wantGet(t, []byte{}, 0, 0, api.ErrShort)
	for _, x := range edges {
		for k := range x.b {
			wantGet(t, x.b[:k], 0, 0, api.ErrShort)
		}
	}
	// Too short is told ahead of written too long.
	for _, b := range overlong {
		for k := range b {
			wantGet(t, b[:k], 0, 0, api.ErrShort)
		}
	}
}

// P1.2: what lies behind a slice's end is not of it.
func TestGetKeepsToLength(t *testing.T) {
	b := []byte{255, 1, 2, 3, 4, 5, 6, 7, 8}
	wantGet(t, b[:8], 0, 0, api.ErrShort)
	wantGet(t, b[:0], 0, 0, api.ErrShort)
}

// P1.2
func TestGetForm(t *testing.T) {
	for _, b := range overlong {
		wantGet(t, b, 0, 0, api.ErrForm)
		wantGet(t, append(slices.Clone(b), 9), 0, 0, api.ErrForm)
	}
}

// P1.3
func TestAll(t *testing.T) {
	wantAll(t, nil, nil, api.OK)
	wantAll(t, []byte{}, nil, api.OK)
	wantAll(t, []byte{0}, []uint64{0}, api.OK)
	wantAll(t, []byte{1, 253, 3, 232, 5}, []uint64{1, 1000, 5}, api.OK)
	var l []uint64
	var b []byte
	for _, x := range edges {
		l = append(l, x.n)
		b = append(b, x.b...)
	}
	wantAll(t, b, l, api.OK)
}

// P1.3
func TestAllLong(t *testing.T) {
	wantAll(t, make([]byte, api.MaxText), make([]uint64, api.MaxText), api.OK)
	wantAll(t, make([]byte, api.MaxText+1), nil, api.ErrLong)
	greatest := slices.Repeat([]byte{255}, 9*(api.MaxText/9))
	wantAll(t, greatest, slices.Repeat([]uint64{math.MaxUint64}, api.MaxText/9), api.OK)
	// Too long is told ahead of what is wrong within.
	wantAll(t, append([]byte{253, 0, 0}, make([]byte, api.MaxText-2)...), nil, api.ErrLong)
	wantAll(t, append(make([]byte, api.MaxText), 255), nil, api.ErrLong)
	// What is wrong at the very end of the longest text is told as itself.
	wantAll(t, append(make([]byte, api.MaxText-1), 253), nil, api.ErrShort)
	wantAll(t, append(make([]byte, api.MaxText-3), 253, 0, 252), nil, api.ErrForm)
}

// P1.3
func TestAllFirstError(t *testing.T) {
	for _, b := range overlong {
		wantAll(t, b, nil, api.ErrForm)
		wantAll(t, slices.Concat([]byte{1, 2}, b, []byte{3}), nil, api.ErrForm)
		wantAll(t, slices.Concat([]byte{1, 2}, b, []byte{255}), nil, api.ErrForm)
		wantAll(t, slices.Concat([]byte{1, 2}, b[:len(b)-1]), nil, api.ErrShort)
	}
	wantAll(t, []byte{253}, nil, api.ErrShort)
	wantAll(t, []byte{1, 254, 0, 1, 0}, nil, api.ErrShort)
	wantAll(t, []byte{253, 1, 0, 255, 1, 2, 3, 4, 5, 6, 7}, nil, api.ErrShort)
	// The short one swallows the octets that would be wrong by themselves.
	wantAll(t, []byte{254, 253, 0, 0}, nil, api.ErrShort)
}

// P1.4
func TestPutIsGot(t *testing.T) {
	tails := [][]byte{nil, {0}, {253}, {255, 255, 255, 255, 255, 255, 255, 255, 255}}
	l := near()
	for _, n := range l {
		b := Put(n)
		for _, tail := range tails {
			wantGet(t, slices.Concat(b, tail), n, len(b), api.OK)
		}
	}
	for part := range slices.Chunk(l, api.MaxText/9) {
		wantAll(t, Put(part...), part, api.OK)
	}
}

// P1.4
func TestNoneBeginsAnother(t *testing.T) {
	var l []uint64
	for _, n := range near() {
		if n < 600 || n > 65000 {
			l = append(l, n)
		}
	}
	seen := map[string]uint64{}
	for _, n := range l {
		seen[string(Put(n))] = n
	}
	if len(seen) != len(l) {
		t.Errorf("%d numbers have %d texts", len(l), len(seen))
	}
	for _, n := range l {
		b := Put(n)
		for k := range b {
			if m, ok := seen[string(b[:k])]; ok {
				t.Errorf("the octets of %d begin those of %d", m, n)
			}
		}
	}
}

// P1.4
func TestGreaterHasNoFewer(t *testing.T) {
	l := near()
	slices.Sort(l)
	for i := 1; i < len(l); i++ {
		if Size(l[i-1]) > Size(l[i]) {
			t.Errorf("%d has more octets than %d", l[i-1], l[i])
		}
	}
}

// R2
func TestPutSharesNothing(t *testing.T) {
	l := []uint64{7, 1000, 1 << 40}
	b := Put(l...)
	if !slices.Equal(l, []uint64{7, 1000, 1 << 40}) {
		t.Errorf("Put changed its numbers: %v", l)
	}
	kept := slices.Clone(b)
	clear(l)
	if !bytes.Equal(b, kept) {
		t.Errorf("what Put answered changed: %v", b)
	}
	clear(b)
	if c := Put(7, 1000, 1<<40); !bytes.Equal(c, kept) {
		t.Errorf("Put again = %v; want %v", c, kept)
	}
}

// R2
func TestReadingSharesNothing(t *testing.T) {
	l := []uint64{7, 1000, 1 << 40}
	b := Put(l...)
	kept := slices.Clone(b)
	wantGet(t, b, 7, 1, api.OK)
	m, _ := All(b)
	if !bytes.Equal(b, kept) {
		t.Errorf("reading changed the octets: %v; want %v", b, kept)
	}
	clear(b)
	if !slices.Equal(m, l) {
		t.Errorf("what All answered changed: %v; want %v", m, l)
	}
	clear(m)
	wantAll(t, kept, l, api.OK)
}

// FuzzGet holds Get and All against Put: whatever is read is the one way to write it.
func FuzzGet(f *testing.F) {
	f.Add([]byte{})
	for _, x := range edges {
		f.Add(x.b)
	}
	for _, b := range overlong {
		f.Add(b)
	}
	f.Fuzz(func(t *testing.T, b []byte) {
		n, size, e := Get(b)
		switch e {
		case api.OK:
			if size > len(b) || !bytes.Equal(Put(n), b[:size]) {
				t.Errorf("Get(%v) = %d, %d", b, n, size)
			}
		case api.ErrShort, api.ErrForm:
			if n != 0 || size != 0 {
				t.Errorf("Get(%v) = %d, %d, %d", b, n, size, e)
			}
		default:
			t.Errorf("Get(%v) answers error %d", b, e)
		}
		l, e := All(b)
		if e == api.OK && !bytes.Equal(Put(l...), b) {
			t.Errorf("All(%v) = %v", b, l)
		}
		if e != api.OK && len(l) != 0 {
			t.Errorf("All(%v) = %v, %d", b, l, e)
		}
	})
}
