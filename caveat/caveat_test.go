package caveat

import (
	"bytes"
	"encoding/binary"
	"maps"
	"math"
	"slices"
	"testing"

	"damson/api"
)

// The kinds and the greatest numbers are written out, so that the tests do not lean on what they hold the program against.
const (
	till    = 1
	methods = 2
	each    = 3
	all     = 4
	who     = 5

	allMethods = 65535
	allMoney   = 4611686018427387904
	mostL      = 16
	greatest   = math.MaxUint64
)

func of(kind int, a uint64) api.Caveat { return api.Caveat{Kind: kind, A: a} }

func capOf(a, b uint64) api.Caveat { return api.Caveat{Kind: all, A: a, B: b} }

// mostA is the greatest A of each Kind.
func mostA(kind int) uint64 {
	return map[int]uint64{till: greatest, methods: allMethods, each: allMoney, all: allMoney, who: greatest}[kind]
}

// edges are numbers at and beside those where something changes: how they are written, or whether they may be.
func edges() []uint64 {
	return []uint64{
		0, 1, 2, 3, 4, 5, 6, 8, 10, 252, 253, 254, 255, 256, 32767, 32768, 43690, 65534, 65535, 65536, 131072,
		1<<32 - 1, 1 << 32, 1<<62 - 1, 1 << 62, 1<<62 + 1, 1 << 63, greatest - 1, greatest,
	}
}

// right are caveats that may be, with all edges.
func right() []api.Caveat {
	var l []api.Caveat
	for kind := till; kind <= who; kind++ {
		for _, a := range edges() {
			if a > mostA(kind) {
				continue
			}
			l = append(l, of(kind, a))
			if kind == all {
				l = append(l, capOf(a, 1), capOf(a, 7), capOf(a, 253), capOf(a, 1<<32), capOf(a, allMoney+1), capOf(a, greatest))
			}
		}
	}
	return l
}

// wrong are caveats that may not be.
func wrong() []api.Caveat {
	var l []api.Caveat
	for _, kind := range []int{math.MinInt, math.MinInt32, -5, -1, 0, 6, 7, 16, 253, 257, 1 << 32, 1<<32 + 1, 1<<62 + 4, math.MaxInt} {
		l = append(l, of(kind, 0), of(kind, 1), api.Caveat{Kind: kind, B: 1}, api.Caveat{Kind: kind, A: greatest, B: greatest})
	}
	for _, kind := range []int{methods, each, all} {
		for _, a := range edges() {
			if a > mostA(kind) {
				l = append(l, of(kind, a), api.Caveat{Kind: kind, A: a, B: 1})
			}
		}
	}
	for _, kind := range []int{till, methods, each, who} {
		for _, b := range []uint64{1, 2, 1 << 32, 1 << 63, greatest} {
			l = append(l, api.Caveat{Kind: kind, B: b}, api.Caveat{Kind: kind, A: mostA(kind), B: b})
		}
	}
	return l
}

// uses are such as may be, with all edges.
func uses() []api.Use {
	var l []api.Use
	for _, n := range edges() {
		l = append(l, api.Use{Tick: n}, api.Use{Who: n}, api.Use{Tick: n, Method: 1, Amount: 1, Who: greatest - n})
		if n <= allMoney {
			l = append(l, api.Use{Amount: n}, api.Use{Tick: 1, Method: 3, Amount: n, Who: 2})
		}
	}
	for method := range 16 {
		l = append(l, api.Use{Method: method}, api.Use{Tick: greatest, Method: method, Amount: allMoney, Who: greatest})
	}
	return l
}

// wrongUses are such as may not be.
func wrongUses() []api.Use {
	var l []api.Use
	for _, method := range []int{math.MinInt, -16, -1, 16, 17, 63, 64, 1 << 32, math.MaxInt} {
		l = append(l, api.Use{Method: method}, api.Use{Tick: 9, Method: method, Amount: allMoney, Who: 2})
	}
	for _, n := range []uint64{allMoney + 1, 1 << 63, greatest} {
		l = append(l, api.Use{Amount: n}, api.Use{Tick: 9, Method: 15, Amount: n, Who: 2})
	}
	return append(l, api.Use{Method: 16, Amount: allMoney + 1})
}

// bits are the places of a number's bits, told by halving it.
func bits(n uint64) map[int]bool {
	m := map[int]bool{}
	for place := 0; n > 0; place++ {
		if n%2 == 1 {
			m[place] = true
		}
		n /= 2
	}
	return m
}

// within is the chapter's 'it holds', of caveats and uses that may be.
func within(c api.Caveat, u api.Use) bool {
	return c.Kind == till && u.Tick <= c.A ||
		c.Kind == methods && bits(c.A)[u.Method] ||
		c.Kind == each && u.Amount <= c.A ||
		c.Kind == all && u.Amount <= c.A ||
		c.Kind == who && u.Who == c.A
}

// octets are those of numbers, each with as few as can be.
func octets(l ...uint64) []byte {
	var b []byte
	for _, n := range l {
		switch {
		case n <= 252:
			b = append(b, byte(n))
		case n <= 65535:
			b = binary.BigEndian.AppendUint16(append(b, 253), uint16(n))
		case n <= 4294967295:
			b = binary.BigEndian.AppendUint32(append(b, 254), uint32(n))
		default:
			b = binary.BigEndian.AppendUint64(append(b, 255), n)
		}
	}
	return b
}

// octetsOf are those of a caveat that may be.
func octetsOf(c api.Caveat) []byte {
	if c.Kind == all {
		return octets(all, c.A, c.B)
	}
	return octets(uint64(c.Kind), c.A)
}

// wide are the octets of numbers that are written with more than are needed, and are therefore none.
func wide(n uint64) [][]byte {
	var l [][]byte
	if n <= 252 {
		l = append(l, binary.BigEndian.AppendUint16([]byte{253}, uint16(n)))
	}
	if n <= 65535 {
		l = append(l, binary.BigEndian.AppendUint32([]byte{254}, uint32(n)))
	}
	if n <= 4294967295 {
		l = append(l, binary.BigEndian.AppendUint64([]byte{255}, n))
	}
	return l
}

func wantPut(t *testing.T, c api.Caveat, want []byte, wantE api.Errno) {
	t.Helper()
	if b, e := Put(c); !bytes.Equal(b, want) || e != wantE {
		t.Errorf("Put(%v) = %v, %d; want %v, %d", c, b, e, want, wantE)
	}
}

func wantGet(t *testing.T, b []byte, want api.Caveat, wantE api.Errno) {
	t.Helper()
	if c, e := Get(b); c != want || e != wantE {
		t.Errorf("Get(%v) = %v, %d; want %v, %d", b, c, e, want, wantE)
	}
}

func wantHolds(t *testing.T, c api.Caveat, u api.Use, want bool, wantE api.Errno) {
	t.Helper()
	if is, e := Holds(c, u); is != want || e != wantE {
		t.Errorf("Holds(%v, %v) = %v, %d; want %v, %d", c, u, is, e, want, wantE)
	}
}

func wantAll(t *testing.T, l []api.Caveat, u api.Use, want bool, wantE api.Errno) {
	t.Helper()
	if is, e := All(l, u); is != want || e != wantE {
		t.Errorf("All(%v, %v) = %v, %d; want %v, %d", l, u, is, e, want, wantE)
	}
}

func wantCaps(t *testing.T, l []api.Caveat, want map[uint64]uint64, wantE api.Errno) {
	t.Helper()
	if m, e := Caps(l); !maps.Equal(m, want) || e != wantE {
		t.Errorf("Caps(%v) = %v, %d; want %v, %d", l, m, e, want, wantE)
	}
}

func wantTighter(t *testing.T, a, b api.Caveat, want bool, wantE api.Errno) {
	t.Helper()
	if is, e := Tighter(a, b); is != want || e != wantE {
		t.Errorf("Tighter(%v, %v) = %v, %d; want %v, %d", a, b, is, e, want, wantE)
	}
}

// P6.1
func TestCheck(t *testing.T) {
	for _, c := range right() {
		if e := Check(c); e != api.OK {
			t.Errorf("Check(%v) = %d", c, e)
		}
	}
	for _, c := range wrong() {
		if e := Check(c); e != api.ErrArg {
			t.Errorf("Check(%v) = %d", c, e)
		}
	}
}

// P6.1: the edges that the chapter names, each written out.
func TestCheckEdges(t *testing.T) {
	for _, x := range []struct {
		kind int
		a, b uint64
		want api.Errno
	}{
		{-1, 0, 0, 1}, {0, 0, 0, 1}, {1, 0, 0, 0}, {2, 0, 0, 0}, {3, 0, 0, 0}, {4, 0, 0, 0}, {5, 0, 0, 0}, {6, 0, 0, 1},
		{math.MinInt, 0, 0, 1}, {math.MaxInt, 0, 0, 1},
		{1, greatest, 0, 0}, {5, greatest, 0, 0},
		{2, 65535, 0, 0}, {2, 65536, 0, 1}, {2, 65537, 0, 1}, {2, 1 << 63, 0, 1}, {2, greatest, 0, 1},
		{3, 1 << 62, 0, 0}, {3, 1<<62 + 1, 0, 1}, {3, greatest, 0, 1},
		{4, 1 << 62, 0, 0}, {4, 1<<62 + 1, 0, 1}, {4, greatest, 0, 1},
		{1, 9, 1, 1}, {2, 9, 1, 1}, {3, 9, 1, 1}, {4, 9, 1, 0}, {5, 9, 1, 1},
		{1, 9, greatest, 1}, {2, 9, greatest, 1}, {3, 9, greatest, 1}, {4, 9, greatest, 0}, {5, 9, greatest, 1},
		{4, 1 << 62, greatest, 0}, {4, 1<<62 + 1, greatest, 1}, {0, 0, 1, 1}, {6, 0, 1, 1},
	} {
		if e := Check(api.Caveat{Kind: x.kind, A: x.a, B: x.b}); e != x.want {
			t.Errorf("Check(%d, %d, %d) = %d; want %d", x.kind, x.a, x.b, e, x.want)
		}
	}
}

// P6.1: of one bit each, those of the methods may be, and no others.
func TestCheckBits(t *testing.T) {
	for place := range 64 {
		want := api.OK
		if place > 15 {
			want = api.ErrArg
		}
		for _, a := range []uint64{1 << place, 1<<place | 1} {
			if e := Check(of(methods, a)); e != want {
				t.Errorf("Check of bit %d = %d; want %d", place, e, want)
			}
		}
	}
}

// P6.1
func TestPut(t *testing.T) {
	for _, x := range []struct {
		c    api.Caveat
		want []byte
	}{
		{of(till, 9), []byte{1, 9}},
		{of(till, greatest), []byte{1, 255, 255, 255, 255, 255, 255, 255, 255, 255}},
		{of(methods, 65535), []byte{2, 253, 255, 255}},
		{of(methods, 0), []byte{2, 0}},
		{of(each, 300), []byte{3, 253, 1, 44}},
		{of(each, allMoney), []byte{3, 255, 64, 0, 0, 0, 0, 0, 0, 0}},
		{capOf(300, 7), []byte{4, 253, 1, 44, 7}},
		{capOf(0, 0), []byte{4, 0, 0}},
		{capOf(252, 253), []byte{4, 252, 253, 0, 253}},
		{capOf(1<<32, greatest), []byte{4, 255, 0, 0, 0, 1, 0, 0, 0, 0, 255, 255, 255, 255, 255, 255, 255, 255, 255}},
		{of(who, 0), []byte{5, 0}},
		{of(who, 65536), []byte{5, 254, 0, 1, 0, 0}},
	} {
		wantPut(t, x.c, x.want, api.OK)
		wantGet(t, x.want, x.c, api.OK)
	}
	for _, c := range wrong() {
		wantPut(t, c, nil, api.ErrArg)
	}
}

// P6.1, P6.4: what was put is got, alone only, and none of what it begins with is a caveat.
func TestPutIsGot(t *testing.T) {
	for _, c := range right() {
		b := octetsOf(c)
		wantPut(t, c, b, api.OK)
		wantGet(t, b, c, api.OK)
		for n := range b {
			wantGet(t, b[:n:n], api.Caveat{}, api.ErrShort)
			// What is behind the end of a list is not looked at.
			wantGet(t, b[:n], api.Caveat{}, api.ErrShort)
		}
		for _, behind := range [][]byte{{0}, {1}, {253}, {255}, {0, 0}, b, bytes.Repeat([]byte{0}, 70000)} {
			if got, e := Get(slices.Concat(b, behind)); got != (api.Caveat{}) || e != api.ErrForm {
				t.Errorf("Get(%v with %d behind) = %v, %d", b, len(behind), got, e)
			}
		}
	}
}

// P6.4: no two caveats have the same octets.
func TestPutTellsApart(t *testing.T) {
	seen := map[string]api.Caveat{}
	for _, c := range right() {
		b, _ := Put(c)
		if other, there := seen[string(b)]; there && other != c {
			t.Errorf("%v and %v are both %v", c, other, b)
		}
		seen[string(b)] = c
	}
}

// P6.1: a Kind that is none is told ahead of all that is behind it, if it is a number at all.
func TestGetNoKind(t *testing.T) {
	for _, kind := range []uint64{0, 6, 7, 252, 253, 257, 260, 65535, 65537, 1<<32 - 1, 1 << 32, 1<<32 + 1, 1<<32 + 4, 1 << 62, 1 << 63, 1<<63 + 1, greatest - 4, greatest} {
		for _, behind := range [][]byte{nil, {0}, {253}, {253, 0}, {253, 0, 1}, {255, 0}, {1, 1}, {1, 1, 1}} {
			wantGet(t, append(octets(kind), behind...), api.Caveat{}, api.ErrForm)
		}
	}
}

// P6.1: the errors of numbers, one behind the other.
func TestGetNumbers(t *testing.T) {
	for _, x := range []struct {
		b    []byte
		want api.Errno
	}{
		{nil, api.ErrShort}, {[]byte{}, api.ErrShort},
		// Kind.
		{[]byte{253}, api.ErrShort}, {[]byte{253, 0}, api.ErrShort}, {[]byte{253, 255}, api.ErrShort}, {[]byte{254, 0, 0, 0}, api.ErrShort}, {[]byte{255, 0, 0, 0, 0, 0, 0, 0}, api.ErrShort},
		{[]byte{253, 0, 1}, api.ErrForm}, {[]byte{253, 0, 1, 9}, api.ErrForm}, {[]byte{254, 0, 0, 0, 2, 9}, api.ErrForm}, {[]byte{255, 0, 0, 0, 0, 0, 0, 0, 4, 9, 1}, api.ErrForm},
		{[]byte{253, 0, 0}, api.ErrForm}, {[]byte{253, 0, 6, 9}, api.ErrForm},
		// A.
		{[]byte{1}, api.ErrShort}, {[]byte{2}, api.ErrShort}, {[]byte{3}, api.ErrShort}, {[]byte{4}, api.ErrShort}, {[]byte{5}, api.ErrShort},
		{[]byte{1, 253}, api.ErrShort}, {[]byte{2, 253, 1}, api.ErrShort}, {[]byte{3, 254, 1, 1, 1}, api.ErrShort}, {[]byte{4, 255, 1, 1, 1, 1, 1, 1, 1}, api.ErrShort}, {[]byte{5, 255}, api.ErrShort},
		{[]byte{1, 253, 0, 1}, api.ErrForm}, {[]byte{2, 253, 0, 252}, api.ErrForm}, {[]byte{3, 254, 0, 0, 255, 255}, api.ErrForm}, {[]byte{5, 255, 0, 0, 0, 0, 255, 255, 255, 255}, api.ErrForm},
		// B.
		{[]byte{4, 1}, api.ErrShort}, {[]byte{4, 1, 253}, api.ErrShort}, {[]byte{4, 1, 253, 1}, api.ErrShort}, {[]byte{4, 1, 254, 0, 0, 0}, api.ErrShort}, {[]byte{4, 253, 1, 44, 255, 0, 0, 0, 0, 0, 0, 0}, api.ErrShort},
		{[]byte{4, 1, 253, 0, 252}, api.ErrForm}, {[]byte{4, 1, 254, 0, 0, 255, 255}, api.ErrForm}, {[]byte{4, 1, 255, 0, 0, 0, 0, 0, 0, 0, 0}, api.ErrForm},
		// A's error is told ahead of B's.
		{[]byte{4, 253, 0, 1}, api.ErrForm}, {[]byte{4, 253, 0, 1, 253}, api.ErrForm}, {[]byte{4, 255, 0}, api.ErrShort},
		// An A that is too great is told behind B's error.
		{[]byte{4, 255, 64, 0, 0, 0, 0, 0, 0, 1}, api.ErrShort}, {[]byte{4, 255, 255, 255, 255, 255, 255, 255, 255, 255, 253, 1}, api.ErrShort},
		{[]byte{4, 255, 64, 0, 0, 0, 0, 0, 0, 1, 7}, api.ErrForm},
		// What is behind is told behind all numbers' errors, whatever it is.
		{[]byte{1, 9, 0}, api.ErrForm}, {[]byte{1, 9, 253}, api.ErrForm}, {[]byte{2, 9, 255, 0}, api.ErrForm}, {[]byte{3, 9, 7}, api.ErrForm}, {[]byte{4, 9, 7, 253}, api.ErrForm}, {[]byte{5, 9, 9, 9}, api.ErrForm},
	} {
		wantGet(t, x.b, api.Caveat{}, x.want)
	}
}

// P6.1: those that may not be are none, whose numbers are right.
func TestGetMayNotBe(t *testing.T) {
	for kind := till; kind <= who; kind++ {
		for _, a := range edges() {
			if a > mostA(kind) {
				wantGet(t, octetsOf(of(kind, a)), api.Caveat{}, api.ErrForm)
			}
		}
		// Of those that are not AllV a B is not even read, be it 0.
		if kind != all {
			wantGet(t, octets(uint64(kind), 9, 0), api.Caveat{}, api.ErrForm)
			wantGet(t, octets(uint64(kind), 9, 7), api.Caveat{}, api.ErrForm)
		}
	}
}

// P6.1: numbers that are not written as layer 1 writes them are none, at each place.
func TestGetWide(t *testing.T) {
	for _, c := range []api.Caveat{of(till, 9), of(methods, 300), of(each, 65536), of(who, 0), capOf(9, 0), capOf(300, 70000)} {
		parts := []uint64{uint64(c.Kind), c.A}
		if c.Kind == all {
			parts = append(parts, c.B)
		}
		for i, n := range parts {
			for _, w := range wide(n) {
				b := slices.Concat(octets(parts[:i]...), w, octets(parts[i+1:]...))
				wantGet(t, b, api.Caveat{}, api.ErrForm)
				ahead := len(octets(parts[:i]...)) + len(w)
				for n := range ahead {
					wantGet(t, b[:n], api.Caveat{}, api.ErrShort)
				}
				// The last octet of it that is there tells, whatever is behind.
				wantGet(t, b[:ahead], api.Caveat{}, api.ErrForm)
			}
		}
	}
}

// getBy reads a caveat in the chapter's words: it finds the numbers of which b is made.
func getBy(b []byte) (api.Caveat, api.Errno) {
	var l [3]uint64
	for i := range 3 {
		if i == 2 && l[0] != all {
			break
		}
		if len(b) == 0 {
			return api.Caveat{}, api.ErrShort
		}
		size := map[byte]int{253: 3, 254: 5, 255: 9}[b[0]]
		if size == 0 {
			size = 1
			l[i] = uint64(b[0])
		}
		if len(b) < size {
			return api.Caveat{}, api.ErrShort
		}
		for _, x := range b[1:size] {
			l[i] = l[i]*256 + uint64(x)
		}
		if len(octets(l[i])) != size || i == 0 && (l[0] == 0 || l[0] > 5) {
			return api.Caveat{}, api.ErrForm
		}
		b = b[size:]
	}
	if len(b) > 0 || l[1] > mostA(int(l[0])) {
		return api.Caveat{}, api.ErrForm
	}
	return api.Caveat{Kind: int(l[0]), A: l[1], B: l[2]}, api.OK
}

// P6.1: all of one and two octets, and those of up to six that are made of a few.
func TestGetSmall(t *testing.T) {
	hold := func(b []byte) {
		c, e := getBy(b)
		wantGet(t, b, c, e)
	}
	for x := range 256 {
		hold([]byte{byte(x)})
		for y := range 256 {
			hold([]byte{byte(x), byte(y)})
		}
	}
	few := []byte{0, 1, 2, 4, 5, 6, 253, 254}
	for size := range 7 {
		for n := range 1 << (3 * size) {
			b := make([]byte, size)
			for i := range b {
				b[i] = few[n>>(3*i)%8]
			}
			hold(b)
		}
	}
}

// P6.2
func TestHolds(t *testing.T) {
	u := api.Use{Tick: 9, Method: 3, Amount: 50, Who: 2}
	for _, x := range []struct {
		c    api.Caveat
		u    api.Use
		want bool
	}{
		{of(till, 9), u, true}, {of(till, 10), u, true}, {of(till, 8), u, false}, {of(till, 0), u, false}, {of(till, greatest), u, true},
		{of(methods, 8), u, true}, {of(methods, 4), u, false}, {of(methods, 16), u, false}, {of(methods, 3), u, false}, {of(methods, 65535), u, true}, {of(methods, 65535-8), u, false}, {of(methods, 0), u, false},
		{of(each, 50), u, true}, {of(each, 51), u, true}, {of(each, 49), u, false}, {of(each, 0), u, false}, {of(each, allMoney), u, true},
		{capOf(50, 0), u, true}, {capOf(50, 1), u, true}, {capOf(49, 1), u, false}, {capOf(49, 50), u, false}, {capOf(49, greatest), u, false}, {capOf(allMoney, 0), u, true}, {capOf(0, 9), u, false},
		{of(who, 2), u, true}, {of(who, 1), u, false}, {of(who, 3), u, false}, {of(who, greatest), u, false},
		{of(till, 0), api.Use{}, true}, {of(till, 0), api.Use{Tick: 1}, false},
		{of(till, greatest), api.Use{Tick: greatest}, true}, {of(till, greatest-1), api.Use{Tick: greatest}, false},
		{of(methods, 1), api.Use{}, true}, {of(methods, 65534), api.Use{}, false},
		{of(methods, 32768), api.Use{Method: 15}, true}, {of(methods, 32767), api.Use{Method: 15}, false},
		{of(each, 0), api.Use{}, true}, {capOf(0, 0), api.Use{}, true}, {of(each, 0), api.Use{Amount: 1}, false}, {capOf(0, 0), api.Use{Amount: 1}, false},
		{of(each, allMoney), api.Use{Amount: allMoney}, true}, {of(each, allMoney-1), api.Use{Amount: allMoney}, false},
		{capOf(allMoney, 3), api.Use{Amount: allMoney}, true}, {capOf(allMoney-1, 3), api.Use{Amount: allMoney}, false},
		{of(who, 0), api.Use{}, true}, {of(who, 0), api.Use{Who: 1}, false}, {of(who, 1), api.Use{}, false}, {of(who, greatest), api.Use{Who: greatest}, true},
	} {
		wantHolds(t, x.c, x.u, x.want, api.OK)
	}
}

// P6.2: all caveats that may be, of all uses that may be.
func TestHoldsEach(t *testing.T) {
	for _, c := range right() {
		for _, u := range uses() {
			wantHolds(t, c, u, within(c, u), api.OK)
			wantAll(t, []api.Caveat{c}, u, within(c, u), api.OK)
		}
	}
}

// P6.2: each method, by each set of methods of one bit, and by each that lacks one.
func TestHoldsMethods(t *testing.T) {
	for method := range 16 {
		for place := range 16 {
			u := api.Use{Method: method}
			wantHolds(t, of(methods, 1<<place), u, method == place, api.OK)
			wantHolds(t, of(methods, allMethods-1<<place), u, method != place, api.OK)
		}
	}
}

// P6.2
func TestHoldsWrong(t *testing.T) {
	for _, c := range wrong() {
		for _, u := range append(uses(), wrongUses()...) {
			wantHolds(t, c, u, false, api.ErrArg)
		}
	}
	// A use may not be, also where what is wrong in it is not asked for.
	for _, c := range right() {
		for _, u := range wrongUses() {
			wantHolds(t, c, u, false, api.ErrArg)
		}
	}
}

// some are caveats that all hold of the use at their side.
func some() ([]api.Caveat, api.Use) {
	return []api.Caveat{of(till, 9), of(methods, 8), of(each, 50), capOf(50, 1), of(who, 2), capOf(60, 1), of(till, greatest), of(methods, 65535)},
		api.Use{Tick: 9, Method: 3, Amount: 50, Who: 2}
}

// P6.2
func TestAll(t *testing.T) {
	for _, u := range uses() {
		wantAll(t, nil, u, true, api.OK)
		wantAll(t, []api.Caveat{}, u, true, api.OK)
	}
	l, u := some()
	wantAll(t, l, u, true, api.OK)
	for _, fails := range []api.Caveat{of(till, 8), of(methods, 7), of(methods, 0), of(each, 49), capOf(49, 2), of(who, 0)} {
		for i := range l {
			m := slices.Clone(l)
			m[i] = fails
			wantAll(t, m, u, false, api.OK)
			wantAll(t, slices.Insert(slices.Clone(l), i, fails), u, false, api.OK)
		}
		wantAll(t, append(slices.Clone(l), fails), u, false, api.OK)
	}
	// All of them are to hold, not one of each Kind.
	wantAll(t, []api.Caveat{of(who, 2), of(who, 3)}, u, false, api.OK)
	wantAll(t, []api.Caveat{of(who, 3), of(who, 2)}, u, false, api.OK)
	wantAll(t, []api.Caveat{capOf(50, 1), capOf(49, 2)}, u, false, api.OK)
	wantAll(t, []api.Caveat{of(methods, 8), of(methods, 4)}, u, false, api.OK)
}

// P6.2
func TestAllAtTheMost(t *testing.T) {
	u := api.Use{Tick: 9}
	l := slices.Repeat([]api.Caveat{of(till, 9)}, mostL)
	wantAll(t, l, u, true, api.OK)
	wantCaps(t, l, nil, api.OK)
	for i := range l {
		m := slices.Clone(l)
		m[i] = of(till, 8)
		wantAll(t, m, u, false, api.OK)
	}
	for _, n := range []int{17, 18, 32, 256, 1000} {
		wantAll(t, slices.Repeat([]api.Caveat{of(till, 9)}, n), u, false, api.ErrArg)
		wantAll(t, slices.Repeat([]api.Caveat{of(till, 8)}, n), u, false, api.ErrArg)
		wantAll(t, make([]api.Caveat, n), u, false, api.ErrArg)
		wantCaps(t, slices.Repeat([]api.Caveat{capOf(9, 1)}, n), nil, api.ErrArg)
		wantCaps(t, slices.Repeat([]api.Caveat{of(till, 9)}, n), nil, api.ErrArg)
		wantCaps(t, make([]api.Caveat, n), nil, api.ErrArg)
	}
}

// P6.2: one that may not be is told at each place, also behind one that does not hold.
func TestListWrong(t *testing.T) {
	l, u := some()
	lists := [][]api.Caveat{nil, l, {of(till, 0)}, {of(till, 0), of(who, 0)}, slices.Repeat([]api.Caveat{capOf(0, 1)}, mostL-1)}
	for _, c := range wrong() {
		for _, l := range lists {
			for i := range len(l) + 1 {
				m := slices.Insert(slices.Clone(l), i, c)
				wantAll(t, m, u, false, api.ErrArg)
				wantCaps(t, m, nil, api.ErrArg)
			}
		}
	}
	for _, u := range wrongUses() {
		for _, l := range lists {
			wantAll(t, l, u, false, api.ErrArg)
		}
		wantAll(t, []api.Caveat{{}}, u, false, api.ErrArg)
	}
}

// P6.2
func TestCaps(t *testing.T) {
	for _, x := range []struct {
		l    []api.Caveat
		want map[uint64]uint64
	}{
		{nil, nil}, {[]api.Caveat{}, nil},
		{[]api.Caveat{of(till, 9), of(methods, 9), of(each, 9), of(who, 9)}, nil},
		{[]api.Caveat{capOf(9, 1)}, map[uint64]uint64{1: 9}},
		{[]api.Caveat{capOf(0, 0)}, map[uint64]uint64{0: 0}},
		{[]api.Caveat{capOf(allMoney, greatest)}, map[uint64]uint64{greatest: allMoney}},
		{[]api.Caveat{capOf(9, 1), capOf(7, 1)}, map[uint64]uint64{1: 7}},
		{[]api.Caveat{capOf(7, 1), capOf(9, 1)}, map[uint64]uint64{1: 7}},
		{[]api.Caveat{capOf(7, 1), capOf(7, 1)}, map[uint64]uint64{1: 7}},
		{[]api.Caveat{capOf(7, 1), capOf(7, 2)}, map[uint64]uint64{1: 7, 2: 7}},
		{[]api.Caveat{capOf(9, 1), capOf(7, 2)}, map[uint64]uint64{1: 9, 2: 7}},
		{[]api.Caveat{capOf(0, 1), capOf(9, 1)}, map[uint64]uint64{1: 0}},
		{[]api.Caveat{capOf(9, 1), capOf(0, 1)}, map[uint64]uint64{1: 0}},
		{[]api.Caveat{capOf(5, 1), capOf(3, 2), capOf(4, 1), capOf(6, 2), capOf(6, 1), capOf(2, 2)}, map[uint64]uint64{1: 4, 2: 2}},
		{[]api.Caveat{of(each, 1), capOf(9, 0), of(each, 1), of(till, 0), of(methods, 0), of(who, 0)}, map[uint64]uint64{0: 9}},
		{[]api.Caveat{capOf(9, 1), of(each, 1), capOf(7, 1), capOf(0, 2)}, map[uint64]uint64{1: 7, 2: 0}},
	} {
		wantCaps(t, x.l, x.want, api.OK)
	}
}

// P6.2: as many caps as there may be, of as many Bs or of one.
func TestCapsAtTheMost(t *testing.T) {
	var apart, one []api.Caveat
	want := map[uint64]uint64{}
	for i := range uint64(mostL) {
		apart = append(apart, capOf(100-i, i<<60))
		one = append(one, capOf(100-i, 7))
		want[i<<60] = 100 - i
	}
	wantCaps(t, apart, want, api.OK)
	wantCaps(t, one, map[uint64]uint64{7: 85}, api.OK)
	slices.Reverse(one)
	wantCaps(t, one, map[uint64]uint64{7: 85}, api.OK)
	wantCaps(t, append(apart, capOf(1, 1)), nil, api.ErrArg)
}

// capsBy asks of each B by itself which As there are.
func capsBy(l []api.Caveat) map[uint64]uint64 {
	as := map[uint64][]uint64{}
	for _, c := range l {
		if c.Kind == all {
			as[c.B] = append(as[c.B], c.A)
		}
	}
	m := map[uint64]uint64{}
	for b, l := range as {
		m[b] = slices.Min(l)
	}
	return m
}

// lists are those of up to three small caveats.
func lists() [][]api.Caveat {
	few := []api.Caveat{of(till, 1), of(methods, 2), of(each, 1), of(who, 1), capOf(0, 0), capOf(1, 0), capOf(2, 0), capOf(0, 1), capOf(1, 1), capOf(2, 1), of(methods, 3), of(till, 0)}
	out := [][]api.Caveat{nil}
	for from := 0; len(out[from]) < 3; from++ {
		for _, c := range few {
			out = append(out, append(slices.Clone(out[from]), c))
		}
	}
	return out
}

// P6.2, P6.4: a list holds as its caveats do each by itself, and no more than what is ahead of its last one.
func TestMoreLetNoMore(t *testing.T) {
	for _, l := range lists() {
		wantCaps(t, l, capsBy(l), api.OK)
		for n := range uint64(81) {
			u := api.Use{Tick: n % 3, Method: int(n / 3 % 3), Amount: n / 9 % 3, Who: n / 27}
			one := true
			for i, c := range l {
				holds, e := Holds(c, u)
				one = one && holds
				got, f := All(l[:i+1], u)
				if got != one || e != api.OK || f != api.OK {
					t.Errorf("All(%v, %v) = %v, %d; want %v", l[:i+1], u, got, f, one)
				}
			}
		}
	}
}

// P6.4: what caps tell of one B is let be by all of AllV with it, and no more is.
func TestCapsAreWhatHolds(t *testing.T) {
	for _, l := range lists() {
		m, _ := Caps(l)
		for amount := range uint64(4) {
			want := true
			for _, a := range m {
				want = want && amount <= a
			}
			caps := slices.DeleteFunc(slices.Clone(l), func(c api.Caveat) bool { return c.Kind != all })
			wantAll(t, caps, api.Use{Amount: amount}, want, api.OK)
		}
	}
}

// P6.3
func TestTighter(t *testing.T) {
	for _, kind := range []int{till, each, all} {
		for _, x := range []struct {
			a, b uint64
			want bool
		}{
			{3, 4, true}, {4, 4, true}, {5, 4, false}, {0, 0, true}, {0, 1, true}, {1, 0, false}, {8, 7, false}, {4, 3, false},
			{0, allMoney, true}, {allMoney, allMoney, true}, {allMoney - 1, allMoney, true}, {allMoney, allMoney - 1, false}, {allMoney, 0, false},
		} {
			wantTighter(t, of(kind, x.a), of(kind, x.b), x.want, api.OK)
		}
	}
	wantTighter(t, of(till, greatest-1), of(till, greatest), true, api.OK)
	wantTighter(t, of(till, greatest), of(till, greatest-1), false, api.OK)
	for _, x := range []struct {
		a, b uint64
		want bool
	}{
		{5, 7, true}, {5, 5, true}, {5, 6, false}, {5, 10, false}, {7, 5, false}, {0, 0, true}, {0, 8, true}, {8, 0, false}, {4, 8, false}, {8, 4, false}, {2, 3, true},
		{65535, 65535, true}, {32768, 65535, true}, {65535, 32767, false}, {32768, 32767, false}, {1, 65534, false},
	} {
		wantTighter(t, of(methods, x.a), of(methods, x.b), x.want, api.OK)
	}
	for _, x := range []struct {
		a, b uint64
		want bool
	}{{5, 5, true}, {5, 6, false}, {6, 5, false}, {4, 6, false}, {0, 0, true}, {0, 1, false}, {0, greatest, false}, {greatest, greatest, true}, {greatest - 1, greatest, false}} {
		wantTighter(t, of(who, x.a), of(who, x.b), x.want, api.OK)
	}
}

// P6.3
func TestTighterOfOneCount(t *testing.T) {
	for _, b := range []uint64{0, 1, 7, 1 << 32, greatest} {
		wantTighter(t, capOf(3, b), capOf(4, b), true, api.OK)
		wantTighter(t, capOf(4, b), capOf(4, b), true, api.OK)
		wantTighter(t, capOf(5, b), capOf(4, b), false, api.OK)
		for _, other := range []uint64{b + 1, b - 1, b ^ 1<<32} {
			for _, a := range []uint64{3, 4, 5} {
				wantTighter(t, capOf(a, b), capOf(4, other), false, api.ErrArg)
			}
		}
	}
}

// P6.3
func TestTighterWrong(t *testing.T) {
	for kind := till; kind <= who; kind++ {
		for other := till; other <= who; other++ {
			if kind != other {
				wantTighter(t, of(kind, 3), of(other, 3), false, api.ErrArg)
				wantTighter(t, of(kind, 0), of(other, 0), false, api.ErrArg)
				wantTighter(t, of(kind, 0), of(other, 9), false, api.ErrArg)
			}
		}
	}
	for _, c := range wrong() {
		for _, d := range append(right(), c) {
			wantTighter(t, c, d, false, api.ErrArg)
			wantTighter(t, d, c, false, api.ErrArg)
		}
		// Of its own Kind, and with its own A and B.
		for _, a := range []uint64{0, 1, 9} {
			wantTighter(t, c, api.Caveat{Kind: c.Kind, A: a}, false, api.ErrArg)
			wantTighter(t, api.Caveat{Kind: c.Kind, A: a}, c, false, api.ErrArg)
			wantTighter(t, c, api.Caveat{Kind: c.Kind, A: a, B: c.B}, false, api.ErrArg)
			wantTighter(t, api.Caveat{Kind: c.Kind, A: a, B: c.B}, c, false, api.ErrArg)
		}
	}
}

// letsNoMore asks of all uses that may tell the two apart: whenever a holds, b does.
func letsNoMore(a, b api.Caveat) bool {
	for _, n := range []uint64{a.A, b.A} {
		for _, near := range []uint64{n - 1, n, n + 1} {
			for method := range 16 {
				u := api.Use{Tick: near, Method: method, Amount: min(near, allMoney), Who: near}
				if within(a, u) && !within(b, u) {
					return false
				}
			}
		}
	}
	return true
}

// P6.3, P6.4: what is tighter lets no more be done, and what is not lets more.
func TestTighterLetsNoMore(t *testing.T) {
	l := right()
	for a := range uint64(16) {
		l = append(l, of(methods, a), of(methods, a<<12))
	}
	for _, a := range l {
		for _, b := range l {
			if a.Kind != b.Kind || a.B != b.B {
				wantTighter(t, a, b, false, api.ErrArg)
				continue
			}
			wantTighter(t, a, b, letsNoMore(a, b), api.OK)
			for _, u := range uses() {
				is, _ := Tighter(a, b)
				holds, _ := Holds(a, u)
				other, _ := Holds(b, u)
				if is && holds && !other {
					t.Errorf("%v is tighter than %v, and holds of %v", a, b, u)
				}
			}
		}
	}
}

// P6.4: a tighter one in the place of another lets no more be done by all.
func TestTighterInAList(t *testing.T) {
	for _, l := range lists() {
		for i, c := range l {
			m := slices.Clone(l)
			if c.A > 0 && c.Kind != who {
				m[i].A = c.A &^ 1
			}
			if is, e := Tighter(m[i], c); !is || e != api.OK {
				t.Fatalf("Tighter(%v, %v) = %v, %d", m[i], c, is, e)
			}
			for n := range uint64(54) {
				u := api.Use{Tick: n % 3, Method: int(n / 3 % 3), Amount: n / 9 % 3, Who: n / 27}
				is, _ := All(m, u)
				other, _ := All(l, u)
				if is && !other {
					t.Errorf("All(%v, %v), and not %v", m, u, l)
				}
			}
		}
	}
}

// P6.2, the chapter's example.
func TestTillNine(t *testing.T) {
	wantHolds(t, of(till, 9), api.Use{Tick: 9}, true, api.OK)
	wantHolds(t, of(till, 9), api.Use{Tick: 10}, false, api.OK)
}

// R2: what is told is new each time, and the caller's to write into.
func TestToldIsNew(t *testing.T) {
	for _, c := range right() {
		b, _ := Put(c)
		again, _ := Put(c)
		b = b[:cap(b)]
		for i := range b {
			b[i] ^= 0xff
		}
		if !bytes.Equal(again, octetsOf(c)) {
			t.Errorf("Put(%v) shares what it told: %v", c, again)
		}
	}
	for _, l := range [][]api.Caveat{nil, {of(till, 9)}, {capOf(9, 1), capOf(7, 2), capOf(5, 1)}} {
		m, _ := Caps(l)
		again, _ := Caps(l)
		clear(m)
		m[1] = 99
		if !maps.Equal(again, capsBy(l)) {
			t.Errorf("Caps(%v) shares what it told: %v", l, again)
		}
	}
}

// R2
func TestHandedInStays(t *testing.T) {
	u := api.Use{Tick: 9, Method: 3, Amount: 50, Who: 2}
	full := slices.Repeat([]api.Caveat{capOf(9, 1), of(till, 3), capOf(7, 1), {}}, 5)
	for n := range full {
		room := slices.Clone(full)
		All(room[:n], u)
		Caps(room[:n])
		if !slices.Equal(room, full) {
			t.Errorf("of %d what was handed in changed: %v", n, room)
		}
	}
	l := []api.Caveat{capOf(9, 1), of(till, 3), capOf(7, 1)}
	m, _ := Caps(l)
	clear(l)
	if !maps.Equal(m, map[uint64]uint64{1: 7}) {
		t.Errorf("what Caps told hangs on what was handed in: %v", m)
	}
	for _, b := range [][]byte{{4, 253, 1, 44, 7}, {4, 253, 1, 44, 7, 0}, {6, 1}, {1, 253, 0, 1}, {4, 1}} {
		room := append(slices.Clone(b), 1, 2, 3)
		Get(room[:len(b)])
		if !bytes.Equal(room, append(slices.Clone(b), 1, 2, 3)) {
			t.Errorf("Get(%v): what was handed in changed: %v", b, room)
		}
	}
}

// FuzzGet holds Get against the chapter's words, and Put against Get.
func FuzzGet(f *testing.F) {
	for _, c := range right() {
		f.Add(octetsOf(c))
	}
	for kind := range byte(7) {
		for _, w := range wide(9) {
			f.Add(append([]byte{kind}, w...))
			f.Add(append([]byte{kind, 9}, w...))
			f.Add(w)
		}
	}
	f.Fuzz(func(t *testing.T, b []byte) {
		c, e := getBy(b)
		wantGet(t, b, c, e)
		if e == api.OK {
			wantPut(t, c, b, api.OK)
		}
	})
}

// FuzzHolds holds all calls but Get against the chapter's words, at two caveats and a use.
func FuzzHolds(f *testing.F) {
	f.Add(1, uint64(9), uint64(0), 1, uint64(8), uint64(0), uint64(9), 3, uint64(50), uint64(2))
	f.Add(2, uint64(8), uint64(0), 2, uint64(12), uint64(0), uint64(9), 3, uint64(50), uint64(2))
	f.Add(4, uint64(50), uint64(1), 4, uint64(49), uint64(1), uint64(9), 15, uint64(50), uint64(2))
	f.Add(3, uint64(1<<62+1), uint64(0), 5, uint64(2), uint64(1), uint64(9), 16, uint64(1<<62+1), uint64(2))
	f.Fuzz(func(t *testing.T, kind int, a, b uint64, kind2 int, a2, b2 uint64, tick uint64, method int, amount, session uint64) {
		c, d := api.Caveat{Kind: kind, A: a, B: b}, api.Caveat{Kind: kind2, A: a2, B: b2}
		u := api.Use{Tick: tick, Method: method, Amount: amount, Who: session}
		mayUse := method >= 0 && method < 16 && amount <= allMoney
		may := func(c api.Caveat) bool {
			return c.Kind >= till && c.Kind <= who && c.A <= mostA(c.Kind) && (c.B == 0 || c.Kind == all)
		}
		for _, c := range []api.Caveat{c, d} {
			if e := Check(c); (e == api.OK) != may(c) || e > api.ErrArg {
				t.Errorf("Check(%v) = %d", c, e)
			}
		}
		if may(c) && mayUse {
			wantHolds(t, c, u, within(c, u), api.OK)
		} else {
			wantHolds(t, c, u, false, api.ErrArg)
		}
		l := []api.Caveat{c, d}
		if !may(c) || !may(d) {
			wantAll(t, l, u, false, api.ErrArg)
			wantCaps(t, l, nil, api.ErrArg)
			wantTighter(t, c, d, false, api.ErrArg)
			return
		}
		wantCaps(t, l, capsBy(l), api.OK)
		if mayUse {
			wantAll(t, l, u, within(c, u) && within(d, u), api.OK)
		} else {
			wantAll(t, l, u, false, api.ErrArg)
		}
		if kind == kind2 && b == b2 {
			wantTighter(t, c, d, letsNoMore(c, d), api.OK)
		} else {
			wantTighter(t, c, d, false, api.ErrArg)
		}
	})
}
