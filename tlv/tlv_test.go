package tlv

import (
	"bytes"
	"math"
	"slices"
	"testing"

	"damson/api"
)

// record is one of type t with the octets v.
func record(t uint64, v ...byte) api.Record { return api.Record{T: t, V: v} }

// row are n records with types from 0 on, each with size octets.
func row(n, size int) []api.Record {
	var l []api.Record
	for i := range n {
		l = append(l, api.Record{T: uint64(i), V: bytes.Repeat([]byte{byte(i + 1)}, size)})
	}
	return l
}

func deepClone(l []api.Record) []api.Record {
	var m []api.Record
	for _, r := range l {
		m = append(m, api.Record{T: r.T, V: bytes.Clone(r.V)})
	}
	return m
}

// equal is worked out apart from Same, so that Same itself can be tested.
func equal(a, b []api.Record) bool {
	if len(a) != len(b) {
		return false
	}
	for i := range a {
		if a[i].T != b[i].T || string(a[i].V) != string(b[i].V) {
			return false
		}
	}
	return true
}

// wipe writes over all that a list of records holds, and behind its end.
func wipe(l []api.Record) {
	for i := range l {
		wipeOctets(l[i].V)
	}
	l = l[:cap(l)]
	for i := range l {
		l[i] = record(77, 7, 7)
	}
}

func wipeOctets(b []byte) {
	b = b[:cap(b)]
	for i := range b {
		b[i] ^= 0xff
	}
}

// good are records that may be, with their octets.
var good = []struct {
	name string
	l    []api.Record
	b    []byte
}{
	{"none", nil, nil},
	{"empty", []api.Record{}, []byte{}},
	{"the example", []api.Record{record(3, 7, 8)}, []byte{3, 2, 7, 8}},
	{"type 0, no octets", []api.Record{record(0)}, []byte{0, 0}},
	{"empty V", []api.Record{{T: 1, V: []byte{}}, {T: 2, V: nil}}, []byte{1, 0, 2, 0}},
	{"V is like a record", []api.Record{record(1, 1, 0), record(2, 255)}, []byte{1, 2, 1, 0, 2, 1, 255}},
	{"types of all sizes",
		[]api.Record{record(252, 1), record(253), record(65535, 2), record(65536, 3), record(1<<32 - 1), record(1<<32, 4), record(math.MaxUint64, 5)},
		slices.Concat(
			[]byte{252, 1, 1},
			[]byte{253, 0, 253, 0},
			[]byte{253, 255, 255, 1, 2},
			[]byte{254, 0, 1, 0, 0, 1, 3},
			[]byte{254, 255, 255, 255, 255, 0},
			[]byte{255, 0, 0, 0, 1, 0, 0, 0, 0, 1, 4},
			[]byte{255, 255, 255, 255, 255, 255, 255, 255, 255, 1, 5})},
	{"252 octets", []api.Record{{T: 5, V: make([]byte, 252)}, record(6, 1)}, slices.Concat([]byte{5, 252}, make([]byte, 252), []byte{6, 1, 1})},
	{"253 octets", []api.Record{{T: 5, V: make([]byte, 253)}, record(6, 1)}, slices.Concat([]byte{5, 253, 0, 253}, make([]byte, 253), []byte{6, 1, 1})},
	{"MaxFrame octets", []api.Record{{T: 5, V: make([]byte, 4096)}, record(6, 1)}, slices.Concat([]byte{5, 253, 16, 0}, make([]byte, 4096), []byte{6, 1, 1})},
	{"MaxRecords records", row(64, 0), rowOctets(64)},
}

// rowOctets are the octets of row(n, 0).
func rowOctets(n int) []byte {
	var b []byte
	for i := range n {
		b = append(b, byte(i), 0)
	}
	return b
}

// bad are records that may not be.
var bad = []struct {
	name string
	l    []api.Record
}{
	{"a type twice", []api.Record{record(2), record(2)}},
	{"a type twice, with the same octets", []api.Record{record(2, 1), record(2, 1)}},
	{"type 0 twice", []api.Record{record(0), record(0)}},
	{"types fall", []api.Record{record(2), record(1)}},
	{"types fall at the end", []api.Record{record(1), record(5), record(9), record(8)}},
	{"types fall at the start", []api.Record{record(1), record(0), record(9)}},
	{"types of 64 bits fall", []api.Record{record(math.MaxUint64), record(0)}},
	{"types fall to above the first", []api.Record{record(1), record(5), record(3)}},
	{"one octet too many", []api.Record{{T: 1, V: make([]byte, 4097)}}},
	{"one octet too many in the last", []api.Record{record(1), record(2), {T: 3, V: make([]byte, 4097)}}},
	{"one record too many", row(65, 0)},
	{"more records than there may be", row(200, 1)},
}

// atMaxText are records whose octets are MaxText, over more than one of MaxFrame.
func atMaxText() []api.Record {
	l := row(15, api.MaxFrame)
	// 15 of 4096 with 4 octets ahead are 61500; the last has 4 ahead too.
	return append(l, api.Record{T: 200, V: make([]byte, api.MaxText-61500-4)})
}

func wantGet(t *testing.T, b []byte, l []api.Record, e api.Errno) {
	t.Helper()
	got, gotE := Get(b)
	if !equal(got, l) || gotE != e {
		t.Errorf("Get(%v..) of %d octets = %d records, %d; want %d records, %d", b[:min(len(b), 12)], len(b), len(got), gotE, len(l), e)
	}
}

func wantPut(t *testing.T, l []api.Record, b []byte, e api.Errno) {
	t.Helper()
	got, gotE := Put(l)
	if !bytes.Equal(got, b) || gotE != e {
		t.Errorf("Put of %d records = %d octets, %d; want %d octets, %d", len(l), len(got), gotE, len(b), e)
	}
}

func wantFind(t *testing.T, l []api.Record, typ uint64, v []byte, e api.Errno) {
	t.Helper()
	got, gotE := Find(l, typ)
	if !bytes.Equal(got, v) || gotE != e {
		t.Errorf("Find of %d in %d records = %v, %d; want %v, %d", typ, len(l), got, gotE, v, e)
	}
}

func wantNumber(t *testing.T, l []api.Record, typ uint64, n uint64, e api.Errno) {
	t.Helper()
	got, gotE := Number(l, typ)
	if got != n || gotE != e {
		t.Errorf("Number of %d in %d records = %d, %d; want %d, %d", typ, len(l), got, gotE, n, e)
	}
}

func wantWith(t *testing.T, l []api.Record, r api.Record, m []api.Record, e api.Errno) {
	t.Helper()
	got, gotE := With(l, r)
	if !equal(got, m) || gotE != e {
		t.Errorf("With of %d and type %d = %d records, %d; want %d records, %d", len(l), r.T, len(got), gotE, len(m), e)
	}
}

// P2.1
func TestCheck(t *testing.T) {
	for _, x := range good {
		if e := Check(x.l); e != api.OK {
			t.Errorf("%s: Check = %d", x.name, e)
		}
	}
	for _, x := range bad {
		if e := Check(x.l); e != api.ErrArg {
			t.Errorf("%s: Check = %d", x.name, e)
		}
	}
	// How many octets they have together is not Check's to ask.
	if e := Check(row(64, api.MaxFrame)); e != api.OK {
		t.Errorf("Check of the greatest = %d", e)
	}
}

// P2.1
func TestSame(t *testing.T) {
	for i, x := range good {
		for k, y := range good {
			want := i == k || len(x.l) == 0 && len(y.l) == 0
			if got := Same(x.l, deepClone(y.l)); got != want {
				t.Errorf("Same(%s, %s) = %t", x.name, y.name, got)
			}
		}
	}
	a := []api.Record{record(1, 5), record(2, 6, 7)}
	for i, b := range [][]api.Record{
		nil,
		a[:1],
		a[1:],
		{a[1], a[0]},
		{record(1, 5), record(3, 6, 7)},
		{record(0, 5), record(2, 6, 7)},
		{record(1, 5), record(2, 6)},
		{record(1, 5), record(2, 6, 8)},
		{record(1), record(2, 6, 7)},
		{record(1, 5, 6), record(2, 7)},
		{record(1, 5), record(2, 6, 7), record(3)},
	} {
		if Same(a, b) || Same(b, a) {
			t.Errorf("%d: Same(%v, %v)", i, a, b)
		}
	}
	if !Same([]api.Record{{T: 1, V: nil}}, []api.Record{{T: 1, V: []byte{}}}) {
		t.Errorf("no octets are not the same as none")
	}
}

// P2.1: Same has no error to tell, so it holds records that may not be against each other too.
func TestSameOfAnyRecords(t *testing.T) {
	for _, x := range bad {
		if !Same(x.l, deepClone(x.l)) {
			t.Errorf("%s: not the same as itself", x.name)
		}
		if Same(x.l, x.l[1:]) {
			t.Errorf("%s: the same as without its first", x.name)
		}
	}
}

// P2.1
func TestPut(t *testing.T) {
	for _, x := range good {
		wantPut(t, x.l, x.b, api.OK)
	}
	for _, x := range bad {
		wantPut(t, x.l, nil, api.ErrArg)
	}
}

// P2.1
func TestPutLong(t *testing.T) {
	l := atMaxText()
	b, e := Put(l)
	if len(b) != api.MaxText || e != api.OK {
		t.Errorf("Put of the longest = %d octets, %d", len(b), e)
	}
	last := &l[len(l)-1]
	last.V = append(last.V, 0)
	wantPut(t, l, nil, api.ErrLong)
	wantPut(t, row(16, api.MaxFrame), nil, api.ErrLong)
	wantPut(t, row(64, api.MaxFrame), nil, api.ErrLong)
	// That they may not be is told ahead of too long.
	wantPut(t, append(row(20, api.MaxFrame), record(3)), nil, api.ErrArg)
	wantPut(t, row(65, api.MaxFrame), nil, api.ErrArg)
}

// P2.2
func TestGet(t *testing.T) {
	for _, x := range good {
		wantGet(t, x.b, x.l, api.OK)
	}
}

// P2.2
func TestGetLong(t *testing.T) {
	l := atMaxText()
	b, _ := Put(l)
	wantGet(t, b, l, api.OK)
	wantGet(t, append(b, 0), nil, api.ErrLong)
	wantGet(t, make([]byte, api.MaxText+1), nil, api.ErrLong)
	// Too long in all is told ahead of what is wrong within, and only then.
	wantGet(t, append([]byte{253, 0, 0}, make([]byte, api.MaxText-2)...), nil, api.ErrLong)
	wantGet(t, append([]byte{253, 0, 0}, make([]byte, api.MaxText-3)...), nil, api.ErrForm)
	wantGet(t, make([]byte, api.MaxText), nil, api.ErrForm)
}

// P2.2
func TestGetTooManyRecords(t *testing.T) {
	full := rowOctets(api.MaxRecords)
	wantGet(t, full, row(api.MaxRecords, 0), api.OK)
	// One more is too many whatever it is: right, with a type that does not rise, cut off, or over-long.
	for _, more := range [][]byte{{64, 0}, {0, 0}, {253}, {64}, {253, 0, 64, 0}, {64, 1}, {64, 253, 16, 1}} {
		wantGet(t, slices.Concat(full, more), nil, api.ErrLong)
	}
	// At one fewer, the same octets are what they are.
	fewer := rowOctets(api.MaxRecords - 1)
	wantGet(t, slices.Concat(fewer, []byte{0, 0}), nil, api.ErrForm)
	wantGet(t, slices.Concat(fewer, []byte{253}), nil, api.ErrShort)
	wantGet(t, slices.Concat(fewer, []byte{64, 0}), append(row(63, 0), record(64)), api.OK)
}

// wrong are octets of one record, cut off or of another form, each to stand behind right ones; its types are above 9.
var wrong = []struct {
	name string
	b    []byte
	e    api.Errno
}{
	{"a type of three octets cut off", []byte{253}, api.ErrShort},
	{"a type of three octets cut off at the last", []byte{253, 1}, api.ErrShort},
	{"a type of five octets cut off", []byte{254, 0, 1, 0}, api.ErrShort},
	{"a type of nine octets cut off", []byte{255, 1, 0, 0, 0, 0, 0, 0}, api.ErrShort},
	{"an over-long type of three", []byte{253, 0, 252, 0}, api.ErrForm},
	{"an over-long type of five", []byte{254, 0, 0, 255, 255, 0}, api.ErrForm},
	{"an over-long type of nine", []byte{255, 0, 0, 0, 0, 255, 255, 255, 255, 0}, api.ErrForm},
	{"no length", []byte{10}, api.ErrShort},
	{"no length behind a type of three", []byte{253, 1, 0}, api.ErrShort},
	{"a length cut off", []byte{10, 253, 1}, api.ErrShort},
	{"a length of nine octets cut off", []byte{10, 255, 1, 0, 0, 0, 0, 0, 0}, api.ErrShort},
	{"an over-long length", []byte{10, 253, 0, 1, 7}, api.ErrForm},
	{"an over-long length, V cut off", []byte{10, 253, 0, 1}, api.ErrForm},
	{"an over-long length of five", []byte{10, 254, 0, 0, 16, 1}, api.ErrForm},
	{"an over-long length of nine", []byte{10, 255, 0, 0, 0, 0, 0, 0, 0, 0}, api.ErrForm},
	{"V cut off whole", []byte{10, 1}, api.ErrShort},
	{"V cut off at the last", []byte{10, 3, 1, 2}, api.ErrShort},
	{"MaxFrame octets, cut off", []byte{10, 253, 16, 0, 1}, api.ErrShort},
	{"one above MaxFrame, cut off", []byte{10, 253, 16, 1, 1}, api.ErrLong},
	{"a length of five octets", []byte{10, 254, 0, 1, 0, 0}, api.ErrLong},
	{"a length beyond an int", []byte{10, 255, 128, 0, 0, 0, 0, 0, 0, 0}, api.ErrLong},
	{"the greatest length", []byte{10, 255, 255, 255, 255, 255, 255, 255, 255, 255}, api.ErrLong},
	{"one above MaxFrame, all there", append([]byte{10, 253, 16, 1}, make([]byte, 4097)...), api.ErrLong},
	{"MaxFrame octets, one missing", append([]byte{10, 253, 16, 0}, make([]byte, 4095)...), api.ErrShort},
}

// P2.2
func TestGetWrong(t *testing.T) {
	for _, x := range wrong {
		for _, ahead := range [][]byte{nil, {9, 0}, {0, 0, 3, 2, 7, 8}, {8, 1, 255}} {
			b := slices.Concat(ahead, x.b)
			if l, e := Get(b); len(l) != 0 || e != x.e {
				t.Errorf("%s behind %v: %d records, %d; want %d", x.name, ahead, len(l), e, x.e)
			}
		}
	}
}

// P2.2
func TestGetTypesRise(t *testing.T) {
	for _, b := range [][]byte{
		{2, 0, 2, 0},
		{2, 0, 1, 0},
		{0, 0, 0, 0},
		{1, 0, 5, 0, 3, 0},
		{253, 1, 0, 0, 252, 0},
		{255, 255, 255, 255, 255, 255, 255, 255, 255, 0, 0, 0},
		// That a type does not rise is told ahead of what is wrong with its length and its V.
		{2, 0, 2},
		{2, 0, 2, 253},
		{2, 0, 2, 253, 0, 0},
		{2, 0, 1, 5},
		{2, 0, 1, 253, 16, 1},
	} {
		wantGet(t, b, nil, api.ErrForm)
	}
	// A type that is cut off is told as such, whatever it would have been.
	wantGet(t, []byte{2, 0, 254, 0, 0}, nil, api.ErrShort)
	wantGet(t, []byte{2, 0, 3, 0, 4, 0}, []api.Record{record(2), record(3), record(4)}, api.OK)
}

// P2.2: what lies behind a slice's end is not of it.
func TestGetKeepsToLength(t *testing.T) {
	b := []byte{3, 2, 7, 8, 9, 0}
	wantGet(t, b[:4], []api.Record{record(3, 7, 8)}, api.OK)
	for _, k := range []int{1, 2, 3, 5} {
		wantGet(t, b[:k], nil, api.ErrShort)
	}
	wantGet(t, b[:0], nil, api.OK)
}

// P2.3
func TestFind(t *testing.T) {
	l := []api.Record{record(0, 4), record(3, 7, 8), record(5), record(1<<40, 1), record(math.MaxUint64, 2)}
	for _, r := range l {
		wantFind(t, l, r.T, r.V, api.OK)
	}
	for _, typ := range []uint64{1, 2, 4, 6, 1<<40 - 1, 1<<40 + 1, math.MaxUint64 - 1} {
		wantFind(t, l, typ, nil, api.ErrNone)
	}
	wantFind(t, nil, 0, nil, api.ErrNone)
	wantFind(t, []api.Record{}, 7, nil, api.ErrNone)
	wantFind(t, l[1:], 0, nil, api.ErrNone)
	full := row(api.MaxRecords, api.MaxFrame)
	for _, r := range full {
		wantFind(t, full, r.T, r.V, api.OK)
	}
	wantFind(t, full, 64, nil, api.ErrNone)
}

// P2.3
func TestFindWrong(t *testing.T) {
	for _, x := range bad {
		for _, typ := range []uint64{0, 1, 2, x.l[0].T, 999} {
			wantFind(t, x.l, typ, nil, api.ErrArg)
			wantNumber(t, x.l, typ, 0, api.ErrArg)
		}
	}
}

// P2.3
func TestNumber(t *testing.T) {
	for _, x := range []struct {
		v []byte
		n uint64
		e api.Errno
	}{
		{[]byte{0}, 0, api.OK},
		{[]byte{252}, 252, api.OK},
		{[]byte{253, 0, 253}, 253, api.OK},
		{[]byte{254, 0, 1, 0, 0}, 65536, api.OK},
		{[]byte{255, 255, 255, 255, 255, 255, 255, 255, 255}, math.MaxUint64, api.OK},
		{nil, 0, api.ErrShort},
		{[]byte{}, 0, api.ErrShort},
		{[]byte{253}, 0, api.ErrShort},
		{[]byte{253, 1}, 0, api.ErrShort},
		{[]byte{255, 0, 0, 0, 0, 0, 0, 0}, 0, api.ErrShort},
		{[]byte{253, 0, 252}, 0, api.ErrForm},
		{[]byte{254, 0, 0, 255, 255}, 0, api.ErrForm},
		{[]byte{255, 0, 0, 0, 0, 255, 255, 255, 255}, 0, api.ErrForm},
		{[]byte{5, 5}, 0, api.ErrForm},
		{[]byte{0, 0}, 0, api.ErrForm},
		{[]byte{5, 253}, 0, api.ErrForm},
		{[]byte{253, 1, 0, 0}, 0, api.ErrForm},
		{[]byte{255, 255, 255, 255, 255, 255, 255, 255, 255, 255}, 0, api.ErrForm},
		{make([]byte, api.MaxFrame), 0, api.ErrForm},
	} {
		for _, l := range [][]api.Record{{{T: 6, V: x.v}}, {record(5, 1), {T: 6, V: x.v}, record(7, 2)}} {
			wantNumber(t, l, 6, x.n, x.e)
			wantNumber(t, l, 8, 0, api.ErrNone)
		}
	}
	wantNumber(t, nil, 6, 0, api.ErrNone)
}

// P2.3
func TestWith(t *testing.T) {
	l := []api.Record{record(2, 20), record(4, 40, 41), record(6)}
	for _, x := range []struct {
		r    api.Record
		want []api.Record
	}{
		{record(0, 1), []api.Record{record(0, 1), l[0], l[1], l[2]}},
		{record(2, 1), []api.Record{record(2, 1), l[1], l[2]}},
		{record(3, 1), []api.Record{l[0], record(3, 1), l[1], l[2]}},
		{record(4), []api.Record{l[0], record(4), l[2]}},
		{record(5), []api.Record{l[0], l[1], record(5), l[2]}},
		{record(6, 1, 2, 3), []api.Record{l[0], l[1], record(6, 1, 2, 3)}},
		{record(7), []api.Record{l[0], l[1], l[2], record(7)}},
		{record(math.MaxUint64, 1), []api.Record{l[0], l[1], l[2], record(math.MaxUint64, 1)}},
	} {
		wantWith(t, l, x.r, x.want, api.OK)
	}
	wantWith(t, nil, record(9, 1), []api.Record{record(9, 1)}, api.OK)
	wantWith(t, []api.Record{}, record(0), []api.Record{record(0)}, api.OK)
	// The greatest of each is let in, however many octets all have together.
	great := api.Record{T: 63, V: make([]byte, api.MaxFrame)}
	wantWith(t, row(63, api.MaxFrame), great, append(row(63, api.MaxFrame), great), api.OK)
}

// P2.3
func TestWithFull(t *testing.T) {
	full := row(api.MaxRecords, 1)
	wantWith(t, full, record(64), nil, api.ErrFull)
	wantWith(t, full, record(math.MaxUint64, 1), nil, api.ErrFull)
	wantWith(t, full[:63], record(64), append(row(63, 1), record(64)), api.OK)
	for i := range full {
		want := row(api.MaxRecords, 1)
		want[i].V = []byte{99, 98}
		wantWith(t, full, record(uint64(i), 99, 98), want, api.OK)
	}
	gap := slices.Delete(row(api.MaxRecords+1, 1), 30, 31)
	wantWith(t, gap, record(30), nil, api.ErrFull)
}

// P2.3
func TestWithWrong(t *testing.T) {
	for _, x := range bad {
		wantWith(t, x.l, record(1), nil, api.ErrArg)
		wantWith(t, x.l, record(999), nil, api.ErrArg)
	}
	long := api.Record{T: 1, V: make([]byte, api.MaxFrame+1)}
	for _, l := range [][]api.Record{nil, {record(1)}, {record(0), record(2)}} {
		wantWith(t, l, long, nil, api.ErrArg)
	}
	// What may not be is told ahead of that there is no room.
	long.T = 64
	wantWith(t, row(api.MaxRecords, 0), long, nil, api.ErrArg)
	wantWith(t, append(row(api.MaxRecords-1, 0), record(0)), record(64), nil, api.ErrArg)
	// Putting a right one in place of the one that may not be does not help: l itself is asked.
	wantWith(t, []api.Record{long}, record(64), nil, api.ErrArg)
}

// P2.4
func TestPutIsGot(t *testing.T) {
	for _, x := range good {
		b, e := Put(x.l)
		if e != api.OK {
			t.Errorf("%s: Put = %d", x.name, e)
		}
		wantGet(t, b, x.l, api.OK)
	}
	for n := range api.MaxRecords + 1 {
		for _, size := range []int{0, 1, 252, 253, 1000} {
			l := row(n, size)
			b, e := Put(l)
			if e == api.OK {
				wantGet(t, b, l, api.OK)
			} else if size < 1000 || e != api.ErrLong {
				t.Errorf("Put of %d records of %d octets = %d", n, size, e)
			}
		}
	}
}

// P2.4: of all texts over a few telling octets, what can be read is the one way to write it.
func TestGotIsPut(t *testing.T) {
	octets := []byte{0, 1, 2, 16, 253, 255}
	texts := [][]byte{nil}
	read := 0
	for range 6 {
		var longer [][]byte
		for _, b := range texts {
			for _, o := range octets {
				longer = append(longer, append(slices.Clone(b), o))
			}
		}
		for _, b := range longer {
			if l, e := Get(b); e == api.OK {
				read++
				wantPut(t, l, b, api.OK)
			} else if len(l) != 0 {
				t.Errorf("Get(%v) = %v, %d", b, l, e)
			}
		}
		texts = longer
	}
	if read == 0 {
		t.Errorf("none could be read")
	}
}

// R2
func TestAskingChangesNothing(t *testing.T) {
	for _, x := range good {
		l := deepClone(x.l)
		Check(l)
		Put(l)
		Find(l, 3)
		Number(l, 3)
		Same(l, l)
		for _, r := range []api.Record{record(0, 9), record(3, 9), record(200, 9)} {
			With(l, r)
			if !equal([]api.Record{r}, []api.Record{record(r.T, 9)}) {
				t.Errorf("%s: With changed its record", x.name)
			}
		}
		if !equal(l, x.l) {
			t.Errorf("%s: records changed", x.name)
		}
		b := bytes.Clone(x.b)
		Get(b)
		if !bytes.Equal(b, x.b) {
			t.Errorf("%s: octets changed", x.name)
		}
	}
}

// R2: a list with room behind its end is where putting a record in could write over what is not its own.
func TestWithLeavesRoomAlone(t *testing.T) {
	whole := []api.Record{record(2, 20), record(4, 40), record(6, 60), record(8, 80), record(10, 100)}
	for n := range len(whole) + 1 {
		for typ := range uint64(12) {
			l := deepClone(whole)
			With(l[:n], record(typ, 1))
			if !equal(l, whole) {
				t.Fatalf("With of %d and type %d wrote into what it was handed: %v", n, typ, l)
			}
		}
	}
}

// R2
func TestPutIsNew(t *testing.T) {
	for _, x := range good {
		l := deepClone(x.l)
		b, _ := Put(l)
		wipe(l)
		if !bytes.Equal(b, x.b) {
			t.Errorf("%s: what Put told changed", x.name)
		}
		l = deepClone(x.l)
		b, _ = Put(l)
		wipeOctets(b)
		wantPut(t, l, x.b, api.OK)
	}
}

// R2
func TestGetIsNew(t *testing.T) {
	for _, x := range good {
		b := bytes.Clone(x.b)
		l, _ := Get(b)
		wipeOctets(b)
		if !equal(l, x.l) {
			t.Errorf("%s: what Get told changed", x.name)
		}
		b = bytes.Clone(x.b)
		l, _ = Get(b)
		wipe(l)
		wantGet(t, b, x.l, api.OK)
	}
	wantApart(t, []api.Record{record(1, 1), record(2), record(3, 3, 3)}, func(l []api.Record) []api.Record {
		b, _ := Put(l)
		m, _ := Get(b)
		return m
	})
}

// R2
func TestFindIsNew(t *testing.T) {
	l := []api.Record{record(1, 1), record(3, 7, 8)}
	v, _ := Find(l, 3)
	wipeOctets(v)
	wantFind(t, l, 3, []byte{7, 8}, api.OK)
	v, _ = Find(l, 3)
	wipe(l)
	if !bytes.Equal(v, []byte{7, 8}) {
		t.Errorf("what Find told changed: %v", v)
	}
}

// R2
func TestWithIsNew(t *testing.T) {
	whole := []api.Record{record(2, 20), record(4, 40, 41), record(6, 60), record(8, 80)}
	for typ := range uint64(10) {
		l, r := deepClone(whole), record(typ, 1, 2)
		want, _ := With(deepClone(whole), record(typ, 1, 2))
		m, _ := With(l, r)
		wipe(l)
		wipeOctets(r.V)
		if !equal(m, want) {
			t.Errorf("type %d: what With told changed: %v", typ, m)
		}
		l, r = deepClone(whole), record(typ, 1, 2)
		m, _ = With(l, r)
		wipe(m)
		if !equal(l, whole) || !bytes.Equal(r.V, []byte{1, 2}) {
			t.Errorf("type %d: what With told was handed in", typ)
		}
		wantWith(t, l, r, want, api.OK)
		wantApart(t, whole, func(l []api.Record) []api.Record {
			m, _ := With(l, record(typ, 1, 2))
			return m
		})
	}
}

// wantApart writes over, and behind, one V of an answer at a time, and holds the others against a later answer.
func wantApart(t *testing.T, l []api.Record, tell func([]api.Record) []api.Record) {
	t.Helper()
	want := tell(deepClone(l))
	for i := range want {
		m := tell(deepClone(l))
		wipeOctets(m[i].V)
		m[i].V = want[i].V
		if !equal(m, want) {
			t.Errorf("the V at place %d shares octets with another", i)
		}
	}
}

// FuzzGet holds Get against Put, whatever the octets.
func FuzzGet(f *testing.F) {
	for _, x := range good {
		f.Add(x.b)
	}
	for _, x := range wrong {
		f.Add(x.b)
	}
	f.Fuzz(func(t *testing.T, b []byte) {
		l, e := Get(b)
		switch e {
		case api.OK:
			if Check(l) != api.OK {
				t.Errorf("Get(%v) may not be", b)
			}
			wantPut(t, l, b, api.OK)
			for _, r := range l {
				wantFind(t, l, r.T, r.V, api.OK)
				wantWith(t, l, r, l, api.OK)
			}
		case api.ErrForm, api.ErrShort, api.ErrLong:
			wantGet(t, b, nil, e)
		default:
			t.Errorf("Get(%v) answers error %d", b, e)
		}
	})
}
