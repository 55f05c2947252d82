package invoice

import (
	"fmt"
	"maps"
	"math"
	"math/rand"
	"slices"
	"testing"

	"damson/api"
)

// Limits, states and the greatest number are written out, so that the tests do not lean on what they hold the program against.
const (
	full     = 256
	most     = 1 << 62
	greatest = math.MaxUint64

	isOpen      = 1
	isPaid      = 2
	isCancelled = 3
	isLate      = 4
)

func row(l ...api.Invoice) []api.Invoice { return l }

func one(hash, n, till uint64, state int) api.Invoice {
	return api.Invoice{Hash: hash, N: n, Till: till, State: state}
}

func open(hash, n, till uint64) api.Invoice { return one(hash, n, till, isOpen) }

func paid(hash, n, till uint64) api.Invoice { return one(hash, n, till, isPaid) }

func cancelled(hash, n, till uint64) api.Invoice { return one(hash, n, till, isCancelled) }

// some are invoices of each state with edges, whose Tills do not rise.
func some() []api.Invoice {
	return row(
		open(0, 10, 5), open(2, most, greatest), paid(5, 1, 0), cancelled(9, 3, 7), open(20, 6, 0),
		cancelled(1<<63, 4, greatest), paid(greatest-1, most, 5), open(greatest, 1, 6),
	)
}

// many are n invoices of every third hash from 3 on, of all states, whose Tills fall.
func many(n int) []api.Invoice {
	l := make([]api.Invoice, n)
	for i := range l {
		l[i] = one(uint64(3*i+3), uint64(i%11+1), uint64(1000-i), i%3+1)
	}
	return l
}

// opened are as many, all open till 9.
func opened(n int) []api.Invoice {
	l := many(n)
	for i := range l {
		l[i].State, l[i].Till = isOpen, 9
	}
	return l
}

// right are invoices that may be.
func right() [][]api.Invoice {
	l := [][]api.Invoice{
		nil, {}, some(), opened(2), opened(full),
		{open(0, 1, 0)}, {open(greatest, most, greatest)}, {paid(0, most, 0)}, {cancelled(greatest, 1, greatest)},
		{open(0, 1, 0), open(1, 1, 0)}, {open(0, 1, 0), paid(greatest, 1, 0)}, {open(greatest-1, 1, 0), open(greatest, 1, 0)},
		{open(1<<63-1, 1, 3), paid(1<<63, 1, 2), cancelled(1<<63+1, 1, 1)},
		// Together they are beyond an amount, and beyond 64 bits, which is nowhere asked for.
		{open(1, most, 0), open(2, most, 0)}, {open(1, most, 9), open(2, most, 9), open(3, most, 9), open(4, most, 9), open(5, most, 9)},
	}
	for _, n := range []int{1, 2, 3, 10, 100, full - 1, full} {
		l = append(l, many(n))
	}
	return l
}

// wrongOnes are invoices that may not be by themselves.
func wrongOnes() map[string]api.Invoice {
	m := map[string]api.Invoice{
		"all zero":                 {},
		"no State":                 {Hash: 7, N: 1},
		"a State alone":            {State: isOpen},
		"N of 0":                   open(7, 0, 5),
		"N of 0, paid":             paid(7, 0, 5),
		"N of 0, cancelled":        cancelled(7, 0, 5),
		"N one above":              open(7, most+1, 5),
		"N one above, paid":        paid(7, most+1, 5),
		"N one above, cancelled":   cancelled(7, most+1, 5),
		"N beyond 63 bits":         open(7, 1<<63, 5),
		"N beyond 63 bits, and 1":  open(7, 1<<63+1, 5),
		"the greatest N":           open(7, greatest, 5),
		"the greatest N, paid":     paid(7, greatest, 5),
		"the greatest N but one":   open(7, greatest-1, 5),
		"wrong N, and wrong State": one(7, 0, 5, 0),
	}
	for _, state := range []int{0, isLate, 5, 8, 100, 257, 1<<32 + isOpen, -1, -2, -3, -4, math.MaxInt, math.MinInt, math.MinInt + 1} {
		m[fmt.Sprintf("State %d", state)] = one(7, 10, 5, state)
	}
	return m
}

// wrong are invoices that may not be, each by one thing.
func wrong() map[string][]api.Invoice {
	m := map[string][]api.Invoice{
		"Hashes fall":                   {open(2, 1, 1), open(1, 1, 1)},
		"Hashes fall to 0":              {open(greatest, 1, 1), open(0, 1, 1)},
		"Hashes fall, beyond 63 bits":   {open(1<<63, 1, 1), open(1<<63-1, 1, 1)},
		"Hashes fall at the end":        {open(1, 1, 1), open(2, 1, 1), open(4, 1, 1), open(3, 1, 1)},
		"Hashes fall, one over":         {open(2, 1, 1), cancelled(1, 1, 1)},
		"one Hash twice":                {open(2, 1, 1), open(2, 3, 4)},
		"Hash 0 twice":                  {open(0, 1, 1), open(0, 3, 4)},
		"the greatest Hash twice":       {open(greatest, 1, 1), open(greatest, 3, 4)},
		"one Hash twice, one paid":      {paid(2, 1, 1), open(2, 1, 1)},
		"one Hash twice, one cancelled": {open(2, 1, 1), cancelled(2, 1, 1)},
		"one Hash twice, apart":         {open(2, 1, 1), open(3, 1, 1), open(2, 1, 1)},
		"one Hash twice at the end":     {open(1, 1, 1), open(3, 1, 1), open(3, 1, 1)},
		"twice the same":                {open(1, 5, 5), open(1, 5, 5)},
		"one too many":                  many(full + 1),
		"one too many, all open":        opened(full + 1),
		"two too many":                  many(full + 2),
		"much too many":                 many(3000),
		"one too many, all zero":        make([]api.Invoice, full+1),
	}
	for name, v := range wrongOnes() {
		m[name] = row(v)
		m[name+", ahead"] = row(v, open(8, 1, 1), open(9, 1, 1))
		m[name+", between"] = row(open(3, 1, 1), v, open(9, 1, 1))
		m[name+", behind"] = row(open(3, 1, 1), open(4, 1, 1), v)
	}
	for _, n := range []int{5, full} {
		for _, i := range []int{0, 1, n / 2, n - 2, n - 1} {
			l := many(n)
			l[i].Hash = l[(i+n/2)%n].Hash
			m[fmt.Sprintf("a Hash of %d twice at %d", n, i)] = l
			l = many(n)
			l[i], l[(i+1)%n] = l[(i+1)%n], l[i]
			m[fmt.Sprintf("two of %d changed about at %d", n, i)] = l
		}
	}
	return m
}

// askedOf are Hashes, amounts and ticks that the invoices at the front, in the middle and at the end have, and those beside them.
type askedOf struct {
	hashes, amounts, ticks []uint64
}

func closely(l []api.Invoice) askedOf {
	hashes := map[uint64]int{0: 0, 1: 0, 7: 0, greatest: 0}
	amounts := map[uint64]int{0: 0, 1: 0, most: 0, most + 1: 0, 1 << 63: 0, greatest: 0}
	ticks := map[uint64]int{0: 0, 1: 0, greatest: 0}
	for i, v := range l {
		if i >= 3 && i < len(l)-3 && i != len(l)/2 {
			continue
		}
		hashes[v.Hash-1], hashes[v.Hash], hashes[v.Hash+1] = 0, 0, 0
		amounts[v.N-1], amounts[v.N], amounts[v.N+1] = 0, 0, 0
		ticks[v.Till-1], ticks[v.Till], ticks[v.Till+1] = 0, 0, 0
	}
	return askedOf{slices.Sorted(maps.Keys(hashes)), slices.Sorted(maps.Keys(amounts)), slices.Sorted(maps.Keys(ticks))}
}

// mayBe tells, in the chapter's words, whether one invoice may be, and allMayBe, whether a row may be.
func mayBe(v api.Invoice) bool {
	return 1 <= v.N && v.N <= most && 1 <= v.State && v.State <= 3
}

func allMayBe(l []api.Invoice) bool {
	hashes := map[uint64]int{}
	least := uint64(0)
	for _, v := range l {
		if !mayBe(v) || v.Hash < least {
			return false
		}
		hashes[v.Hash]++
		least = v.Hash
	}
	return len(l) <= full && len(hashes) == len(l)
}

// find is the invoice of that hash; the invoices are gone through one by one.
func find(l []api.Invoice, hash uint64) (api.Invoice, bool) {
	for _, v := range l {
		if v.Hash == hash {
			return v, true
		}
	}
	return api.Invoice{}, false
}

func lateAt(v api.Invoice, tick uint64) bool { return v.State == isOpen && v.Till < tick }

// checkBy, stateBy, createBy, cancelBy, payBy and sweepBy are what the chapter's words tell.
func checkBy(l []api.Invoice) api.Errno {
	if !allMayBe(l) {
		return api.ErrArg
	}
	return api.OK
}

func stateBy(l []api.Invoice, hash, tick uint64) (int, api.Errno) {
	v, there := find(l, hash)
	switch {
	case !allMayBe(l):
		return 0, api.ErrArg
	case !there:
		return 0, api.ErrNone
	case lateAt(v, tick):
		return isLate, api.OK
	}
	return v.State, api.OK
}

func createBy(l []api.Invoice, hash, n, till uint64) ([]api.Invoice, api.Errno) {
	_, there := find(l, hash)
	switch {
	case !allMayBe(l) || n == 0 || n > most:
		return nil, api.ErrArg
	case there:
		return nil, api.ErrThere
	case len(l) >= full:
		return nil, api.ErrFull
	}
	var told []api.Invoice
	for _, v := range l {
		if v.Hash < hash {
			told = append(told, v)
		}
	}
	told = append(told, open(hash, n, till))
	for _, v := range l {
		if v.Hash > hash {
			told = append(told, v)
		}
	}
	return told, api.OK
}

// ended is the row with one invoice of another State.
func ended(l []api.Invoice, hash uint64, state int) []api.Invoice {
	var told []api.Invoice
	for _, v := range l {
		if v.Hash == hash {
			v = one(v.Hash, v.N, v.Till, state)
		}
		told = append(told, v)
	}
	return told
}

func cancelBy(l []api.Invoice, hash, tick uint64) ([]api.Invoice, api.Errno) {
	v, there := find(l, hash)
	switch {
	case !allMayBe(l):
		return nil, api.ErrArg
	case !there:
		return nil, api.ErrNone
	case lateAt(v, tick):
		return nil, api.ErrOld
	case v.State != isOpen:
		return nil, api.ErrState
	}
	return ended(l, hash, isCancelled), api.OK
}

func payBy(l []api.Invoice, hash, n, tick uint64) ([]api.Invoice, api.Errno) {
	if _, e := cancelBy(l, hash, tick); e != api.OK {
		return nil, e
	}
	if v, _ := find(l, hash); n < v.N {
		return nil, api.ErrPoor
	}
	return ended(l, hash, isPaid), api.OK
}

func sweepBy(l []api.Invoice, tick uint64) ([]api.Invoice, api.Errno) {
	if !allMayBe(l) {
		return nil, api.ErrArg
	}
	var told []api.Invoice
	for _, v := range l {
		if v.State == isPaid || v.State == isOpen && tick <= v.Till {
			told = append(told, v)
		}
	}
	return told, api.OK
}

// equal is worked out apart from Same.
func equal(a, b []api.Invoice) bool {
	if len(a) != len(b) {
		return false
	}
	for i := range a {
		if a[i].Hash != b[i].Hash || a[i].N != b[i].N || a[i].Till != b[i].Till || a[i].State != b[i].State {
			return false
		}
	}
	return true
}

// wipe writes over all invoices, and those behind their end.
func wipe(l []api.Invoice) {
	l = l[:cap(l)]
	for i := range l {
		l[i] = paid(99, 99, 99)
	}
}

func wantState(t *testing.T, l []api.Invoice, hash, tick uint64, want int, wantE api.Errno) {
	t.Helper()
	if s, e := State(l, hash, tick); s != want || e != wantE {
		t.Errorf("State(%v, %d, %d) = %d, %d; want %d, %d", l, hash, tick, s, e, want, wantE)
	}
}

// wantRow takes the call by its parts, as it is written out only where it is told.
func wantRow(t *testing.T, got []api.Invoice, e api.Errno, want []api.Invoice, wantE api.Errno, call string, handed ...any) {
	t.Helper()
	if !equal(got, want) || e != wantE {
		t.Errorf("%s%v = %v, %d; want %v, %d", call, handed, got, e, want, wantE)
	}
}

func wantCreate(t *testing.T, l []api.Invoice, hash, n, till uint64, want []api.Invoice, wantE api.Errno) {
	t.Helper()
	got, e := Create(l, hash, n, till)
	wantRow(t, got, e, want, wantE, "Create", l, hash, n, till)
}

func wantCancel(t *testing.T, l []api.Invoice, hash, tick uint64, want []api.Invoice, wantE api.Errno) {
	t.Helper()
	got, e := Cancel(l, hash, tick)
	wantRow(t, got, e, want, wantE, "Cancel", l, hash, tick)
}

func wantPay(t *testing.T, l []api.Invoice, hash, n, tick uint64, want []api.Invoice, wantE api.Errno) {
	t.Helper()
	got, e := Pay(l, hash, n, tick)
	wantRow(t, got, e, want, wantE, "Pay", l, hash, n, tick)
}

func wantSweep(t *testing.T, l []api.Invoice, tick uint64, want []api.Invoice, wantE api.Errno) {
	t.Helper()
	got, e := Sweep(l, tick)
	wantRow(t, got, e, want, wantE, "Sweep", l, tick)
}

// holdAll holds each call against the chapter's words, with all that is asked of them.
func holdAll(t *testing.T, l []api.Invoice, a askedOf) {
	t.Helper()
	stays := slices.Clone(l)
	if e := Check(l); e != checkBy(l) {
		t.Errorf("Check(%v) = %d; want %d", l, e, checkBy(l))
	}
	for _, tick := range a.ticks {
		want, e := sweepBy(l, tick)
		wantSweep(t, l, tick, want, e)
		for _, hash := range a.hashes {
			holdOne(t, l, hash, tick, a.amounts)
		}
	}
	if !equal(l, stays) {
		t.Errorf("what was handed in changed: %v; want %v", l, stays)
	}
}

// holdOne holds the calls of one hash and one tick against the chapter's words; the tick is a Till for Create.
func holdOne(t *testing.T, l []api.Invoice, hash, tick uint64, amounts []uint64) {
	t.Helper()
	state, e := stateBy(l, hash, tick)
	wantState(t, l, hash, tick, state, e)
	want, e := cancelBy(l, hash, tick)
	wantCancel(t, l, hash, tick, want, e)
	for _, n := range amounts {
		want, e := createBy(l, hash, n, tick)
		wantCreate(t, l, hash, n, tick, want, e)
		want, e = payBy(l, hash, n, tick)
		wantPay(t, l, hash, n, tick, want, e)
	}
}

// P12.1
func TestCheck(t *testing.T) {
	for _, l := range right() {
		if e := Check(l); e != api.OK {
			t.Errorf("Check(%v) = %d", l, e)
		}
	}
	for name, l := range wrong() {
		if e := Check(l); e != api.ErrArg {
			t.Errorf("%s: Check(%v) = %d", name, l, e)
		}
	}
}

// P12.1: how many there may be.
func TestCheckHowMany(t *testing.T) {
	for n := range 2 * full {
		want := api.OK
		if n > full {
			want = api.ErrArg
		}
		if e := Check(many(n)); e != want {
			t.Errorf("Check of %d invoices = %d; want %d", n, e, want)
		}
	}
}

// P12.1: each pair of places with one Hash at both, or with theirs changed about.
func TestCheckEachPair(t *testing.T) {
	const n = 40
	for i := range n {
		for j := range i {
			l := many(n)
			l[i].Hash = l[j].Hash
			if e := Check(l); e != api.ErrArg {
				t.Errorf("Check, one Hash at %d and %d = %d", j, i, e)
			}
			l = many(n)
			l[i].Hash, l[j].Hash = l[j].Hash, l[i].Hash
			if e := Check(l); e != api.ErrArg {
				t.Errorf("Check, Hashes of %d and %d changed about = %d", j, i, e)
			}
		}
	}
}

// P12.1: each place of full invoices with one that may not be by itself, or with one at an edge.
func TestCheckEachPlace(t *testing.T) {
	for i := range full {
		for name, v := range wrongOnes() {
			l := many(full)
			v.Hash = l[i].Hash
			l[i] = v
			if e := Check(l); e != api.ErrArg {
				t.Errorf("Check, %s at %d = %d", name, i, e)
			}
		}
		for _, v := range row(open(0, 1, 0), paid(0, most, 0), cancelled(0, 1, greatest), open(0, most, greatest)) {
			l := many(full)
			v.Hash = l[i].Hash
			l[i] = v
			if e := Check(l); e != api.OK {
				t.Errorf("Check, %v at %d = %d", v, i, e)
			}
		}
	}
}

// P12.1: one invoice, all its parts at edges.
func TestOneAtEdges(t *testing.T) {
	few := askedOf{[]uint64{0, 1, greatest}, []uint64{0, 1, 2, most, most + 1, greatest}, []uint64{0, 1, 5, 6, greatest}}
	for _, hash := range []uint64{0, 1, greatest} {
		for _, n := range []uint64{0, 1, 2, most - 1, most, most + 1, greatest} {
			for _, till := range []uint64{0, 1, 5, greatest - 1, greatest} {
				for state := -1; state <= 5; state++ {
					holdAll(t, row(one(hash, n, till, state)), few)
				}
			}
		}
	}
}

// others are the row changed in each way that tells two rows apart.
func others(l []api.Invoice) map[string][]api.Invoice {
	m := map[string][]api.Invoice{}
	for i := range l {
		for name, change := range map[string]func(l []api.Invoice) []api.Invoice{
			"Hash by 1":         func(l []api.Invoice) []api.Invoice { l[i].Hash ^= 1; return l },
			"Hash by much":      func(l []api.Invoice) []api.Invoice { l[i].Hash ^= 1 << 63; return l },
			"N by 1":            func(l []api.Invoice) []api.Invoice { l[i].N ^= 1; return l },
			"N by much":         func(l []api.Invoice) []api.Invoice { l[i].N ^= 1 << 62; return l },
			"Till by 1":         func(l []api.Invoice) []api.Invoice { l[i].Till ^= 1; return l },
			"Till by much":      func(l []api.Invoice) []api.Invoice { l[i].Till ^= 1 << 63; return l },
			"State by 1":        func(l []api.Invoice) []api.Invoice { l[i].State ^= 1; return l },
			"State by much":     func(l []api.Invoice) []api.Invoice { l[i].State ^= 1 << 40; return l },
			"State below 0":     func(l []api.Invoice) []api.Invoice { l[i].State = -l[i].State; return l },
			"State to late":     func(l []api.Invoice) []api.Invoice { l[i].State = isLate; return l },
			"Hash and N":        func(l []api.Invoice) []api.Invoice { l[i].Hash, l[i].N = l[i].N+50, l[i].Hash; return l },
			"N and Till":        func(l []api.Invoice) []api.Invoice { l[i].N, l[i].Till = l[i].Till, l[i].N; return l },
			"cut off":           func(l []api.Invoice) []api.Invoice { return l[:i] },
			"taken out":         func(l []api.Invoice) []api.Invoice { return slices.Delete(l, i, i+1) },
			"put in twice":      func(l []api.Invoice) []api.Invoice { return slices.Insert(l, i, l[i]) },
			"one behind":        func(l []api.Invoice) []api.Invoice { return append(l, api.Invoice{}) },
			"two changed about": func(l []api.Invoice) []api.Invoice { l[i], l[(i+1)%len(l)] = l[(i+1)%len(l)], l[i]; return l },
		} {
			m[fmt.Sprintf("%s at %d", name, i)] = change(slices.Clone(l))
		}
	}
	return m
}

// P12.1
func TestSame(t *testing.T) {
	if !Same(nil, []api.Invoice{}) || !Same([]api.Invoice{}, nil) || !Same(nil, nil) {
		t.Error("no invoices are not the same as none")
	}
	// Invoices that may not be are held against others too, as Same tells no error.
	rows := right()
	for _, l := range wrong() {
		rows = append(rows, l)
	}
	for i, l := range rows {
		if !Same(l, slices.Clone(l)) {
			t.Errorf("%v are not the same as themselves", l)
		}
		for _, m := range rows[:i] {
			if Same(l, m) != equal(l, m) || Same(m, l) != equal(l, m) {
				t.Errorf("Same(%v, %v) is wrong", l, m)
			}
		}
	}
}

// P12.1: each part tells two rows apart, and so do their order and how many there are.
func TestSameTellsApart(t *testing.T) {
	for name, l := range others(some()) {
		if Same(l, some()) || Same(some(), l) {
			t.Errorf("%s is not seen", name)
		}
	}
}

// P12.1
func TestState(t *testing.T) {
	for _, x := range []struct {
		l          []api.Invoice
		hash, tick uint64
		want       int
		e          api.Errno
	}{
		{nil, 0, 0, 0, api.ErrNone}, {row(), 7, 5, 0, api.ErrNone}, {nil, greatest, greatest, 0, api.ErrNone},
		{row(open(7, 1, 5)), 7, 0, isOpen, api.OK}, {row(open(7, 1, 5)), 7, 4, isOpen, api.OK}, {row(open(7, 1, 5)), 7, 5, isOpen, api.OK},
		{row(open(7, 1, 5)), 7, 6, isLate, api.OK}, {row(open(7, 1, 5)), 7, 7, isLate, api.OK}, {row(open(7, 1, 5)), 7, 1 << 63, isLate, api.OK}, {row(open(7, 1, 5)), 7, greatest, isLate, api.OK},
		{row(open(7, 1, 0)), 7, 0, isOpen, api.OK}, {row(open(7, 1, 0)), 7, 1, isLate, api.OK}, {row(open(7, 1, 0)), 7, greatest, isLate, api.OK},
		{row(open(7, 1, greatest)), 7, 0, isOpen, api.OK}, {row(open(7, 1, greatest)), 7, greatest, isOpen, api.OK},
		{row(open(7, 1, greatest-1)), 7, greatest - 1, isOpen, api.OK}, {row(open(7, 1, greatest-1)), 7, greatest, isLate, api.OK},
		{row(open(7, 1, 1<<63)), 7, 5, isOpen, api.OK}, {row(open(7, 1, 1<<63-1)), 7, 1 << 63, isLate, api.OK},
		// What is paid, or cancelled, is never late.
		{row(paid(7, 1, 5)), 7, 5, isPaid, api.OK}, {row(paid(7, 1, 5)), 7, 6, isPaid, api.OK}, {row(paid(7, 1, 0)), 7, greatest, isPaid, api.OK},
		{row(cancelled(7, 1, 5)), 7, 5, isCancelled, api.OK}, {row(cancelled(7, 1, 5)), 7, 6, isCancelled, api.OK}, {row(cancelled(7, 1, 0)), 7, greatest, isCancelled, api.OK},
		// One that is not there: ahead of all, beside one, behind all, and one that is only an N or a Till.
		{row(open(7, 1, 5)), 6, 6, 0, api.ErrNone}, {row(open(7, 1, 5)), 8, 6, 0, api.ErrNone}, {row(open(7, 1, 5)), 0, 0, 0, api.ErrNone},
		{row(open(7, 1, 5)), 1, 0, 0, api.ErrNone}, {row(open(7, 1, 5)), 5, 0, 0, api.ErrNone}, {row(open(7, 1, 5)), greatest, 0, 0, api.ErrNone},
		{some(), 0, 5, isOpen, api.OK}, {some(), 0, 6, isLate, api.OK}, {some(), 2, greatest, isOpen, api.OK}, {some(), 5, 9, isPaid, api.OK},
		{some(), 9, 9, isCancelled, api.OK}, {some(), 20, 0, isOpen, api.OK}, {some(), 20, 1, isLate, api.OK}, {some(), 1 << 63, 0, isCancelled, api.OK},
		{some(), greatest - 1, greatest, isPaid, api.OK}, {some(), greatest, 6, isOpen, api.OK}, {some(), greatest, 7, isLate, api.OK},
		{some(), 1, 0, 0, api.ErrNone}, {some(), 10, 0, 0, api.ErrNone}, {some(), 1<<63 + 1, 0, 0, api.ErrNone}, {some(), greatest - 2, 0, 0, api.ErrNone},
	} {
		wantState(t, x.l, x.hash, x.tick, x.want, x.e)
	}
}

// P12.2
func TestCreate(t *testing.T) {
	three := row(open(2, 20, 9), paid(5, 50, 3), cancelled(8, 80, 1))
	for _, x := range []struct {
		l             []api.Invoice
		hash, n, till uint64
		want          []api.Invoice
		e             api.Errno
	}{
		{nil, 7, 10, 5, row(open(7, 10, 5)), api.OK}, {row(), 7, 10, 5, row(open(7, 10, 5)), api.OK},
		{nil, 0, 1, 0, row(open(0, 1, 0)), api.OK}, {nil, greatest, most, greatest, row(open(greatest, most, greatest)), api.OK},
		{nil, 0, most, greatest, row(open(0, most, greatest)), api.OK}, {nil, greatest, 1, 0, row(open(greatest, 1, 0)), api.OK},
		{nil, 7, most - 1, 5, row(open(7, most-1, 5)), api.OK},
		// Ahead of all, between two, behind all.
		{three, 0, 1, 4, row(open(0, 1, 4), open(2, 20, 9), paid(5, 50, 3), cancelled(8, 80, 1)), api.OK},
		{three, 1, 1, 4, row(open(1, 1, 4), open(2, 20, 9), paid(5, 50, 3), cancelled(8, 80, 1)), api.OK},
		{three, 3, 2, 4, row(open(2, 20, 9), open(3, 2, 4), paid(5, 50, 3), cancelled(8, 80, 1)), api.OK},
		{three, 7, 3, 4, row(open(2, 20, 9), paid(5, 50, 3), open(7, 3, 4), cancelled(8, 80, 1)), api.OK},
		{three, 9, 4, 4, row(open(2, 20, 9), paid(5, 50, 3), cancelled(8, 80, 1), open(9, 4, 4)), api.OK},
		{three, greatest, 4, 4, row(open(2, 20, 9), paid(5, 50, 3), cancelled(8, 80, 1), open(greatest, 4, 4)), api.OK},
		{three, 20, most, 9, row(open(2, 20, 9), paid(5, 50, 3), cancelled(8, 80, 1), open(20, most, 9)), api.OK},
		// One that is there, whatever it is.
		{three, 2, 20, 9, nil, api.ErrThere}, {three, 2, 1, 0, nil, api.ErrThere}, {three, 5, 50, 3, nil, api.ErrThere},
		{three, 5, 1, 9, nil, api.ErrThere}, {three, 8, 80, 1, nil, api.ErrThere}, {three, 8, most, greatest, nil, api.ErrThere},
		{row(open(0, 1, 0)), 0, 2, 2, nil, api.ErrThere}, {row(open(greatest, 1, 0)), greatest, 2, 2, nil, api.ErrThere},
		// An n that is none that is asked for, ahead of one that is there.
		{nil, 7, 0, 5, nil, api.ErrArg}, {nil, 7, most + 1, 5, nil, api.ErrArg}, {nil, 7, 1 << 63, 5, nil, api.ErrArg}, {nil, 7, greatest, 5, nil, api.ErrArg},
		{three, 7, 0, 5, nil, api.ErrArg}, {three, 7, most + 1, 5, nil, api.ErrArg},
		{three, 2, 0, 5, nil, api.ErrArg}, {three, 2, most + 1, 5, nil, api.ErrArg}, {three, 8, greatest, 5, nil, api.ErrArg},
	} {
		wantCreate(t, x.l, x.hash, x.n, x.till, x.want, x.e)
	}
}

// P12.2: one after the other up to MaxInvoices, with Hashes that rise, that fall, and that jump about.
func TestCreateUpToMaxInvoices(t *testing.T) {
	for name, hash := range map[string]func(i uint64) uint64{
		"rise":       func(i uint64) uint64 { return 2*i + 1 },
		"fall":       func(i uint64) uint64 { return 2*(full-1-i) + 1 },
		"jump about": func(i uint64) uint64 { return 2*(i*77%full) + 1 },
	} {
		var l, want []api.Invoice
		for i := range uint64(full) {
			next, e := Create(l, hash(i), i+1, greatest-i)
			if e != api.OK || len(next) != len(l)+1 {
				t.Fatalf("%s: the %d. is %d", name, i, e)
			}
			l = next
			want = append(want, open(hash(i), i+1, greatest-i))
		}
		slices.SortFunc(want, func(v, w api.Invoice) int { return int(v.Hash) - int(w.Hash) })
		if !equal(l, want) {
			t.Errorf("%s: got %v; want %v", name, l, want)
		}
		for _, free := range []uint64{0, 2, full, 2 * full, greatest} {
			wantCreate(t, l, free, 1, 1, nil, api.ErrFull)
		}
	}
}

// P12.2: ErrArg is told ahead of ErrThere, and that ahead of ErrFull.
func TestCreateErrorsInOrder(t *testing.T) {
	for _, l := range [][]api.Invoice{many(full), opened(full)} {
		stays := slices.Clone(l)
		for _, v := range l {
			wantCreate(t, l, v.Hash, v.N, v.Till, nil, api.ErrThere)
			wantCreate(t, l, v.Hash, 1, greatest, nil, api.ErrThere)
			wantCreate(t, l, v.Hash, 0, v.Till, nil, api.ErrArg)
			wantCreate(t, l, v.Hash, most+1, v.Till, nil, api.ErrArg)
			wantCreate(t, l, v.Hash+1, v.N, v.Till, nil, api.ErrFull)
			wantCreate(t, l, v.Hash-1, most, v.Till, nil, api.ErrFull)
			wantCreate(t, l, v.Hash+1, 0, v.Till, nil, api.ErrArg)
			wantCreate(t, l, v.Hash-1, greatest, v.Till, nil, api.ErrArg)
		}
		if !equal(l, stays) {
			t.Errorf("what was handed in changed: %v", l)
		}
		// One fewer is not full.
		less := l[:full-1]
		wantCreate(t, less, greatest, 3, 4, append(slices.Clone(less), open(greatest, 3, 4)), api.OK)
		wantCreate(t, less, 0, 3, 4, slices.Concat(row(open(0, 3, 4)), less), api.OK)
		wantCreate(t, less, less[0].Hash, 3, 4, nil, api.ErrThere)
	}
}

// P12.2
func TestCancel(t *testing.T) {
	three := row(open(2, 20, 5), open(5, 50, 9), open(8, 80, 0))
	for _, x := range []struct {
		l          []api.Invoice
		hash, tick uint64
		want       []api.Invoice
		e          api.Errno
	}{
		{nil, 0, 0, nil, api.ErrNone}, {nil, 7, 5, nil, api.ErrNone}, {row(), greatest, greatest, nil, api.ErrNone},
		{row(open(7, 10, 5)), 7, 0, row(cancelled(7, 10, 5)), api.OK}, {row(open(7, 10, 5)), 7, 5, row(cancelled(7, 10, 5)), api.OK},
		{row(open(7, 10, 5)), 7, 6, nil, api.ErrOld}, {row(open(7, 10, 5)), 7, greatest, nil, api.ErrOld},
		{row(open(0, 1, 0)), 0, 0, row(cancelled(0, 1, 0)), api.OK}, {row(open(0, 1, 0)), 0, 1, nil, api.ErrOld},
		{row(open(greatest, most, greatest)), greatest, greatest, row(cancelled(greatest, most, greatest)), api.OK},
		{row(paid(7, 10, 5)), 7, 5, nil, api.ErrState}, {row(cancelled(7, 10, 5)), 7, 5, nil, api.ErrState},
		// What is paid, or cancelled, is not late.
		{row(paid(7, 10, 5)), 7, 6, nil, api.ErrState}, {row(cancelled(7, 10, 5)), 7, 6, nil, api.ErrState},
		{row(paid(7, 10, 0)), 7, greatest, nil, api.ErrState}, {row(cancelled(7, 10, 0)), 7, greatest, nil, api.ErrState},
		{three, 2, 5, row(cancelled(2, 20, 5), open(5, 50, 9), open(8, 80, 0)), api.OK},
		{three, 5, 6, row(open(2, 20, 5), cancelled(5, 50, 9), open(8, 80, 0)), api.OK},
		{three, 8, 0, row(open(2, 20, 5), open(5, 50, 9), cancelled(8, 80, 0)), api.OK},
		{three, 2, 6, nil, api.ErrOld}, {three, 5, 10, nil, api.ErrOld}, {three, 8, 1, nil, api.ErrOld},
		{three, 1, 0, nil, api.ErrNone}, {three, 3, 0, nil, api.ErrNone}, {three, 20, 0, nil, api.ErrNone}, {three, 9, 99, nil, api.ErrNone},
	} {
		wantCancel(t, x.l, x.hash, x.tick, x.want, x.e)
	}
}

// P12.2
func TestPay(t *testing.T) {
	three := row(open(2, 20, 5), open(5, 50, 9), open(8, 80, 0))
	for _, x := range []struct {
		l             []api.Invoice
		hash, n, tick uint64
		want          []api.Invoice
		e             api.Errno
	}{
		{nil, 0, 0, 0, nil, api.ErrNone}, {nil, 7, 10, 5, nil, api.ErrNone}, {row(), greatest, greatest, greatest, nil, api.ErrNone},
		// An amount below N, just N, one more, and however much more; N stays as it is.
		{row(open(7, 10, 5)), 7, 0, 5, nil, api.ErrPoor}, {row(open(7, 10, 5)), 7, 9, 5, nil, api.ErrPoor},
		{row(open(7, 10, 5)), 7, 10, 5, row(paid(7, 10, 5)), api.OK}, {row(open(7, 10, 5)), 7, 11, 5, row(paid(7, 10, 5)), api.OK},
		{row(open(7, 10, 5)), 7, most, 5, row(paid(7, 10, 5)), api.OK}, {row(open(7, 10, 5)), 7, most + 1, 5, row(paid(7, 10, 5)), api.OK},
		{row(open(7, 10, 5)), 7, 1 << 63, 5, row(paid(7, 10, 5)), api.OK}, {row(open(7, 10, 5)), 7, greatest, 5, row(paid(7, 10, 5)), api.OK},
		{row(open(7, 1, 5)), 7, 0, 5, nil, api.ErrPoor}, {row(open(7, 1, 5)), 7, 1, 5, row(paid(7, 1, 5)), api.OK},
		{row(open(7, most, 5)), 7, most - 1, 5, nil, api.ErrPoor}, {row(open(7, most, 5)), 7, most, 5, row(paid(7, most, 5)), api.OK},
		{row(open(7, most, 5)), 7, most + 1, 5, row(paid(7, most, 5)), api.OK}, {row(open(7, most, 5)), 7, greatest, 5, row(paid(7, most, 5)), api.OK},
		// A tick just at Till, one above, 0 and the greatest number.
		{row(open(7, 10, 5)), 7, 10, 0, row(paid(7, 10, 5)), api.OK}, {row(open(7, 10, 5)), 7, 10, 4, row(paid(7, 10, 5)), api.OK},
		{row(open(7, 10, 5)), 7, 10, 6, nil, api.ErrOld}, {row(open(7, 10, 5)), 7, 10, greatest, nil, api.ErrOld},
		{row(open(7, 10, 0)), 7, 10, 0, row(paid(7, 10, 0)), api.OK}, {row(open(7, 10, 0)), 7, 10, 1, nil, api.ErrOld},
		{row(open(7, 10, greatest)), 7, 10, greatest, row(paid(7, 10, greatest)), api.OK},
		// One that is not there, one that is late, one that is not open: each ahead of too little.
		{row(open(7, 10, 5)), 6, 9, 6, nil, api.ErrNone}, {row(open(7, 10, 5)), 8, 10, 5, nil, api.ErrNone}, {row(paid(7, 10, 5)), 10, 9, 6, nil, api.ErrNone},
		{row(open(7, 10, 5)), 7, 9, 6, nil, api.ErrOld}, {row(open(7, 10, 5)), 7, 0, greatest, nil, api.ErrOld},
		{row(paid(7, 10, 5)), 7, 10, 5, nil, api.ErrState}, {row(paid(7, 10, 5)), 7, 9, 5, nil, api.ErrState}, {row(paid(7, 10, 5)), 7, 0, 6, nil, api.ErrState},
		{row(cancelled(7, 10, 5)), 7, 10, 5, nil, api.ErrState}, {row(cancelled(7, 10, 5)), 7, 9, 5, nil, api.ErrState}, {row(cancelled(7, 10, 5)), 7, 9, 6, nil, api.ErrState},
		{row(paid(7, 10, 0)), 7, 10, greatest, nil, api.ErrState}, {row(cancelled(7, 10, 0)), 7, 10, greatest, nil, api.ErrState},
		{three, 2, 20, 5, row(paid(2, 20, 5), open(5, 50, 9), open(8, 80, 0)), api.OK},
		{three, 5, 50, 9, row(open(2, 20, 5), paid(5, 50, 9), open(8, 80, 0)), api.OK},
		{three, 8, 81, 0, row(open(2, 20, 5), open(5, 50, 9), paid(8, 80, 0)), api.OK},
		{three, 5, 49, 9, nil, api.ErrPoor}, {three, 8, 50, 0, nil, api.ErrPoor}, {three, 8, 80, 1, nil, api.ErrOld}, {three, 3, 80, 0, nil, api.ErrNone},
	} {
		wantPay(t, x.l, x.hash, x.n, x.tick, x.want, x.e)
	}
}

// P12.3
func TestSweep(t *testing.T) {
	four := row(open(2, 20, 5), paid(3, 1, 0), open(5, 50, 9), cancelled(8, 80, 99))
	for _, x := range []struct {
		l    []api.Invoice
		tick uint64
		want []api.Invoice
	}{
		{nil, 0, nil}, {row(), 0, nil}, {nil, greatest, nil},
		{row(open(7, 10, 5)), 0, row(open(7, 10, 5))}, {row(open(7, 10, 5)), 5, row(open(7, 10, 5))},
		{row(open(7, 10, 5)), 6, nil}, {row(open(7, 10, 5)), greatest, nil},
		{row(open(7, 10, 0)), 0, row(open(7, 10, 0))}, {row(open(7, 10, 0)), 1, nil},
		{row(open(7, 10, greatest)), greatest, row(open(7, 10, greatest))},
		{row(paid(7, 10, 5)), 5, row(paid(7, 10, 5))}, {row(paid(7, 10, 5)), 6, row(paid(7, 10, 5))}, {row(paid(7, 10, 0)), greatest, row(paid(7, 10, 0))},
		{row(cancelled(7, 10, 5)), 0, nil}, {row(cancelled(7, 10, 5)), 6, nil}, {row(cancelled(7, 10, greatest)), greatest, nil},
		{four, 0, four[:3]}, {four, 5, four[:3]}, {four, 6, row(paid(3, 1, 0), open(5, 50, 9))}, {four, 9, row(paid(3, 1, 0), open(5, 50, 9))},
		{four, 10, row(paid(3, 1, 0))}, {four, greatest, row(paid(3, 1, 0))},
		{some(), 0, row(open(0, 10, 5), open(2, most, greatest), paid(5, 1, 0), open(20, 6, 0), paid(greatest-1, most, 5), open(greatest, 1, 6))},
		{some(), 6, row(open(2, most, greatest), paid(5, 1, 0), paid(greatest-1, most, 5), open(greatest, 1, 6))},
		{some(), greatest, row(open(2, most, greatest), paid(5, 1, 0), paid(greatest-1, most, 5))},
	} {
		wantSweep(t, x.l, x.tick, x.want, api.OK)
	}
}

// P12.3: full invoices, of which all, none, and each but one are left.
func TestSweepFull(t *testing.T) {
	wantSweep(t, opened(full), 9, opened(full), api.OK)
	wantSweep(t, opened(full), 10, nil, api.OK)
	for i := range full {
		l := opened(full)
		l[i].State = isCancelled
		wantSweep(t, l, 9, slices.Delete(slices.Clone(l), i, i+1), api.OK)
		wantSweep(t, l, 10, nil, api.OK)
		l[i].State = isPaid
		wantSweep(t, l, 9, l, api.OK)
		wantSweep(t, l, 10, row(l[i]), api.OK)
		l[i] = open(l[i].Hash, 1, 8)
		wantSweep(t, l, 8, l, api.OK)
		wantSweep(t, l, 9, slices.Delete(slices.Clone(l), i, i+1), api.OK)
	}
}

// P12.3: what is swept once is so at that tick, and there is room for others.
func TestSweptHasRoom(t *testing.T) {
	l := many(full)
	wantCreate(t, l, 1, 1, 1, nil, api.ErrFull)
	swept, e := Sweep(l, 900)
	want, wantE := sweepBy(l, 900)
	wantRow(t, swept, e, want, wantE, "Sweep", l, 900)
	wantSweep(t, swept, 900, swept, api.OK)
	wantCreate(t, swept, 1, 1, 1, slices.Concat(row(open(1, 1, 1)), swept), api.OK)
	for _, v := range l {
		state, e := State(l, v.Hash, 900)
		if e != api.OK || state != isLate && state != isCancelled {
			continue
		}
		// Its hash is free again, and asked for anew.
		wantState(t, swept, v.Hash, 900, 0, api.ErrNone)
		again, e := Create(swept, v.Hash, 5, 2000)
		want, wantE := createBy(swept, v.Hash, 5, 2000)
		wantRow(t, again, e, want, wantE, "Create", swept, v.Hash, 5, 2000)
		wantState(t, again, v.Hash, 900, isOpen, api.OK)
	}
}

// P12.1 to P12.3: each place of full invoices.
func TestEachPlace(t *testing.T) {
	for i, v := range many(full) {
		l := many(full)
		l[i] = open(v.Hash, v.N, 9)
		wantState(t, l, v.Hash, 9, isOpen, api.OK)
		wantState(t, l, v.Hash, 10, isLate, api.OK)
		for _, beside := range []uint64{v.Hash - 1, v.Hash + 1} {
			wantState(t, l, beside, 9, 0, api.ErrNone)
			wantCancel(t, l, beside, 9, nil, api.ErrNone)
			wantPay(t, l, beside, v.N, 9, nil, api.ErrNone)
		}
		wantCancel(t, l, v.Hash, 10, nil, api.ErrOld)
		wantPay(t, l, v.Hash, v.N, 10, nil, api.ErrOld)
		wantPay(t, l, v.Hash, v.N-1, 9, nil, api.ErrPoor)
		want := slices.Clone(l)
		want[i].State = isCancelled
		wantCancel(t, l, v.Hash, 9, want, api.OK)
		want[i].State = isPaid
		wantPay(t, l, v.Hash, v.N, 9, want, api.OK)
		wantPay(t, l, v.Hash, v.N+1, 9, want, api.OK)
		for _, state := range []int{isPaid, isCancelled} {
			l[i].State = state
			wantState(t, l, v.Hash, 10, state, api.OK)
			wantCancel(t, l, v.Hash, 10, nil, api.ErrState)
			wantPay(t, l, v.Hash, v.N, 10, nil, api.ErrState)
		}
	}
}

// P12.1 to P12.3: each call, of what the invoices have and what is beside it.
func TestByTheWords(t *testing.T) {
	rows := [][]api.Invoice{nil, {}, some(), many(1), many(2), many(7)}
	for _, name := range []string{"Hashes fall", "one Hash twice", "one Hash twice, apart", "all zero", "N of 0, ahead", "N one above, between", "State 4, behind", "State -1", "one too many"} {
		rows = append(rows, wrong()[name])
	}
	for _, l := range rows {
		holdAll(t, l, closely(l))
	}
	for _, l := range [][]api.Invoice{many(full - 1), many(full), opened(full)} {
		a := closely(l)
		a.amounts = []uint64{0, 1, 5, most, most + 1}
		holdAll(t, l, a)
	}
}

// P12.1 to P12.3: all rows of up to three of few small invoices, those that may not be among them.
func TestAllSmallRows(t *testing.T) {
	var few []api.Invoice
	for _, hash := range []uint64{0, 1, greatest} {
		few = append(few, open(hash, 1, 0), open(hash, 2, 1), paid(hash, 1, 1), cancelled(hash, 2, 0))
	}
	few = append(few, open(1, 0, 1), one(1, 1, 1, isLate))
	asked := askedOf{[]uint64{0, 1, 2, greatest}, []uint64{0, 1, 2}, []uint64{0, 1, 2}}
	rows := [][]api.Invoice{nil}
	for range 3 {
		var longer [][]api.Invoice
		for _, l := range rows {
			holdAll(t, l, asked)
			for _, v := range few {
				longer = append(longer, append(slices.Clone(l), v))
			}
		}
		rows = longer
	}
	for _, l := range rows {
		holdAll(t, l, asked)
	}
}

// P12.1 to P12.3: invoices that may not be are told ahead of all else, also where the one that is asked for stands at a right place.
func TestWrongInvoices(t *testing.T) {
	for name, l := range wrong() {
		stays := slices.Clone(l)
		for _, hash := range []uint64{l[0].Hash, l[len(l)/2].Hash, l[len(l)-1].Hash, 0, 77777, greatest} {
			for _, tick := range []uint64{0, 5, 6, greatest} {
				wantState(t, l, hash, tick, 0, api.ErrArg)
				wantCancel(t, l, hash, tick, nil, api.ErrArg)
				wantSweep(t, l, tick, nil, api.ErrArg)
				for _, n := range []uint64{0, 1, 10, most, most + 1, greatest} {
					wantCreate(t, l, hash, n, tick, nil, api.ErrArg)
					wantPay(t, l, hash, n, tick, nil, api.ErrArg)
				}
			}
		}
		if !equal(l, stays) {
			t.Errorf("%s: what was handed in changed: %v; want %v", name, l, stays)
		}
	}
}

// step is one thing that is done with invoices; at is its tick, or, for one that is made, till when.
type step struct {
	name        string
	hash, n, at uint64
}

func (s step) do(l []api.Invoice) ([]api.Invoice, api.Errno) {
	switch s.name {
	case "create":
		return Create(l, s.hash, s.n, s.at)
	case "cancel":
		return Cancel(l, s.hash, s.at)
	case "pay":
		return Pay(l, s.hash, s.n, s.at)
	}
	return Sweep(l, s.at)
}

// by is what the chapter's words tell of a step.
func (s step) by(l []api.Invoice) ([]api.Invoice, api.Errno) {
	switch s.name {
	case "create":
		return createBy(l, s.hash, s.n, s.at)
	case "cancel":
		return cancelBy(l, s.hash, s.at)
	case "pay":
		return payBy(l, s.hash, s.n, s.at)
	}
	return sweepBy(l, s.at)
}

// steps are what may be done with few invoices at few ticks.
func steps() []step {
	var l []step
	for _, at := range []uint64{1, 2} {
		for _, hash := range []uint64{4, 7} {
			l = append(l, step{"create", hash, 2, at}, step{"cancel", hash, 0, at}, step{"pay", hash, 2, at}, step{"pay", hash, 1, at})
		}
		l = append(l, step{"sweep", 0, 0, at})
	}
	return l
}

// wantStep holds a step against the chapter's words, and what follows: what is paid, or cancelled, stays so till it is swept, what is late is never paid, and nothing else changes.
func wantStep(t *testing.T, s step, ahead, after []api.Invoice, e api.Errno) {
	t.Helper()
	want, wantE := s.by(ahead)
	wantRow(t, after, e, want, wantE, "step", s, ahead)
	if e != api.OK {
		return
	}
	if Check(after) != api.OK {
		t.Errorf("%v of %v: %v may not be", s, ahead, after)
	}
	for _, v := range ahead {
		is, there := find(after, v.Hash)
		stays := there && is == v
		switch {
		case s.name == "sweep" && (v.State == isCancelled || lateAt(v, s.at)):
			stays = !there
		case (s.name == "cancel" || s.name == "pay") && v.Hash == s.hash:
			stays = there && v.State == isOpen && v.Till >= s.at && is.State != isOpen && is == one(v.Hash, v.N, v.Till, is.State)
		}
		if !stays {
			t.Errorf("%v of %v: %v; of hash %d there is %v, %v", s, ahead, after, v.Hash, is, there)
		}
	}
	for _, v := range after {
		if _, there := find(ahead, v.Hash); !there && (s.name != "create" || v != open(s.hash, s.n, s.at)) {
			t.Errorf("%v of %v: %v; %v came", s, ahead, after, v)
		}
	}
}

// P12.4: all ways of at most five steps.
func TestWhatFollows(t *testing.T) {
	rows := [][]api.Invoice{nil, row(paid(4, 2, 1), open(7, 2, 1))}
	for range 5 {
		var later [][]api.Invoice
		for _, l := range rows {
			for _, s := range steps() {
				after, e := s.do(l)
				wantStep(t, s, l, after, e)
				if e == api.OK {
					later = append(later, after)
				}
			}
		}
		rows = later
	}
	if len(rows) < 1000 {
		t.Errorf("only %d ways went on", len(rows))
	}
}

// P12.4: long ways in which ticks rise; what was late once is neither paid nor cancelled later on, till it is swept and made anew.
func TestLongWays(t *testing.T) {
	for seed := range int64(30) {
		r := rand.New(rand.NewSource(seed))
		number := func(n int) uint64 { return uint64(r.Intn(n)) }
		var l []api.Invoice
		late := map[uint64]int{}
		done := map[string]int{}
		for i := range 1500 {
			tick := uint64(i / 3)
			for _, v := range l {
				if state, _ := State(l, v.Hash, tick); state == isLate {
					late[v.Hash]++
				}
			}
			hash := number(350)
			s := step{[]string{"create", "create", "create", "pay", "pay", "cancel"}[r.Intn(6)], hash, number(12), tick}
			if s.name == "create" {
				s.at += number(60)
			}
			if r.Intn(40) == 0 {
				s = step{"sweep", 0, 0, tick}
			}
			after, e := s.do(l)
			wantStep(t, s, l, after, e)
			if e != api.OK {
				continue
			}
			done[s.name]++
			l = after
			for hash := range late {
				if v, there := find(l, hash); !there {
					delete(late, hash)
				} else if v.State != isOpen {
					t.Fatalf("%d: step %d, %v: %v was late", seed, i, s, v)
				}
			}
		}
		if len(done) < 4 {
			t.Errorf("%d: only %v was done", seed, done)
		}
	}
}

// P12.4: what is paid, or cancelled, is neither again, at no tick and with no amount, and is made anew only when it is swept.
func TestEndedStays(t *testing.T) {
	for i, v := range opened(full) {
		cancel, e := Cancel(opened(full), v.Hash, 9)
		pay, f := Pay(opened(full), v.Hash, v.N, 9)
		if e != api.OK || f != api.OK || cancel[i].State != isCancelled || pay[i].State != isPaid {
			t.Fatalf("%v: %v, %d and %v, %d", v, cancel, e, pay, f)
		}
		for _, l := range [][]api.Invoice{cancel, pay} {
			for _, tick := range []uint64{0, 9, 10, greatest} {
				wantState(t, l, v.Hash, tick, l[i].State, api.OK)
				wantCancel(t, l, v.Hash, tick, nil, api.ErrState)
				wantPay(t, l, v.Hash, v.N, tick, nil, api.ErrState)
				wantPay(t, l, v.Hash, 0, tick, nil, api.ErrState)
				wantPay(t, l, v.Hash, greatest, tick, nil, api.ErrState)
				wantCreate(t, l, v.Hash, 1, tick, nil, api.ErrThere)
			}
		}
		wantSweep(t, cancel, 9, slices.Delete(opened(full), i, i+1), api.OK)
		wantSweep(t, pay, 9, pay, api.OK)
		wantSweep(t, cancel, 10, nil, api.OK)
		wantSweep(t, pay, 10, row(pay[i]), api.OK)
	}
}

// The chapter's example, and the sixth of the whole: till tick 5, at 5 it can be paid, at 6 it is late.
func TestTillFive(t *testing.T) {
	l, e := Create(nil, 7, 10, 5)
	wantRow(t, l, e, row(open(7, 10, 5)), api.OK, "Create", nil, 7, 10, 5)
	wantState(t, l, 7, 5, isOpen, api.OK)
	wantPay(t, l, 7, 10, 5, row(paid(7, 10, 5)), api.OK)
	wantState(t, l, 7, 6, isLate, api.OK)
	wantPay(t, l, 7, 10, 6, nil, api.ErrOld)
	wantCancel(t, l, 7, 6, nil, api.ErrOld)
	wantSweep(t, l, 5, l, api.OK)
	wantSweep(t, l, 6, nil, api.OK)
}

// calls are those that answer invoices, where each is right of some().
func calls() map[string]func(l []api.Invoice) []api.Invoice {
	first := func(l []api.Invoice, _ api.Errno) []api.Invoice { return l }
	return map[string]func(l []api.Invoice) []api.Invoice{
		"Create at the front":  func(l []api.Invoice) []api.Invoice { return first(Create(l[1:], 1, 1, 1)) },
		"Create in the middle": func(l []api.Invoice) []api.Invoice { return first(Create(l, 7, 1, 1)) },
		"Create at the end":    func(l []api.Invoice) []api.Invoice { return first(Create(l[:4], 10, 1, 1)) },
		"Cancel the first":     func(l []api.Invoice) []api.Invoice { return first(Cancel(l, 0, 5)) },
		"Cancel the last":      func(l []api.Invoice) []api.Invoice { return first(Cancel(l, greatest, 5)) },
		"Pay the first":        func(l []api.Invoice) []api.Invoice { return first(Pay(l, 0, 10, 5)) },
		"Pay in the middle":    func(l []api.Invoice) []api.Invoice { return first(Pay(l, 20, 6, 0)) },
		"Pay the last":         func(l []api.Invoice) []api.Invoice { return first(Pay(l, greatest, 1, 5)) },
		"Sweep some":           func(l []api.Invoice) []api.Invoice { return first(Sweep(l, 6)) },
		"Sweep none":           func(l []api.Invoice) []api.Invoice { return first(Sweep(l[:3], 5)) },
		"Sweep the last":       func(l []api.Invoice) []api.Invoice { return first(Sweep(l[:4], 5)) },
	}
}

// R2: what is told is new, and what is handed in stays as it was, also behind its end.
func TestToldIsNew(t *testing.T) {
	for name, call := range calls() {
		room := append(slices.Concat(row(open(77, 77, 77)), some()), open(88, 88, 88), open(89, 89, 89), open(90, 90, 90))
		kept := slices.Clone(room)
		l := room[1 : len(some())+1]
		told, again := call(l), call(l)
		want := slices.Clone(told)
		if len(told) == 0 || !equal(told, again) {
			t.Fatalf("%s: %v, and then %v", name, told, again)
		}
		if !equal(room, kept) {
			t.Errorf("%s changed what it was handed: %v; want %v", name, room, kept)
		}
		wipe(room)
		if !equal(told, want) {
			t.Errorf("%s: what was told hangs on what was handed in: %v", name, told)
		}
		copy(room, kept)
		wipe(told)
		if !equal(again, want) || !equal(room, kept) {
			t.Errorf("%s: what was told shares memory: %v, %v", name, again, room)
		}
	}
}

// R2: the other calls, and those that tell an error, change nothing.
func TestHandedInStays(t *testing.T) {
	rows := right()
	for _, l := range wrong() {
		rows = append(rows, l)
	}
	for _, kept := range rows {
		room := append(slices.Clone(kept), open(88, 88, 88), open(89, 89, 89))
		l := room[:len(kept)]
		Check(l)
		Same(l, kept)
		for _, n := range []uint64{0, 1, 5, 6, 9, 1000, greatest} {
			Sweep(l, n)
			for _, hash := range []uint64{0, 1, 2, 3, 7, 20, greatest} {
				State(l, hash, n)
				Cancel(l, hash, n)
				Create(l, hash, n, 5)
				Pay(l, hash, n, 5)
				Pay(l, hash, greatest, n)
			}
		}
		if !equal(l, kept) || !equal(room[len(kept):], row(open(88, 88, 88), open(89, 89, 89))) {
			t.Errorf("what was handed in changed: %v; want %v", room, kept)
		}
	}
}

// FuzzInvoice holds all calls against the chapter's words; each invoice is made of four octets.
func FuzzInvoice(f *testing.F) {
	f.Add([]byte{2, 20, 5, 1, 5, 50, 1, 1, 9, 90, 0, 2}, uint64(5), uint64(50), uint64(1))
	f.Add([]byte{2, 20, 5, 1, 2, 21, 5, 3}, uint64(2), uint64(20), uint64(6))
	f.Add([]byte{1, 0, 0, 1, 2, 20, 1, 4}, uint64(3), uint64(4), uint64(5))
	f.Fuzz(func(t *testing.T, b []byte, hash, n, tick uint64) {
		var l []api.Invoice
		for ; len(b) >= 4; b = b[4:] {
			l = append(l, one(uint64(b[0]), uint64(b[1]), uint64(b[2]), int(b[3])%5))
		}
		holdAll(t, l, askedOf{[]uint64{hash, hash % 256, hash % 8}, []uint64{n, n % 256, n % 8}, []uint64{tick, tick % 256, tick % 8}})
	})
}
