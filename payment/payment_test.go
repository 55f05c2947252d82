package payment

import (
	"fmt"
	"maps"
	"math"
	"math/rand"
	"slices"
	"testing"

	"damson/api"
)

// Limits, states and the greatest number are written out, so that the tests do not lean on what they hold the program against.
const (
	full         = 256
	fullChannels = 32
	most         = 1 << 62
	greatest     = math.MaxUint64

	isPending = 1
	isDone    = 2
	isFailed  = 3
)

func row(l ...api.Payment) []api.Payment { return l }

// one has a Hash that falls where Ids rise, as no call asks for it.
func one(id, by, n uint64, state int) api.Payment {
	return api.Payment{Id: id, Hash: 1000 - id, Chan: by, N: n, State: state}
}

func due(id, by, n uint64) api.Payment { return one(id, by, n, isPending) }

func done(id, by, n uint64) api.Payment { return one(id, by, n, isDone) }

func failed(id, by, n uint64) api.Payment { return one(id, by, n, isFailed) }

// some are payments of each state with edges, whose Chans do not rise.
func some() []api.Payment {
	return row(
		due(0, 3, 10), due(2, greatest, most), done(5, 3, 1), failed(9, 1, 3), due(20, 0, 6),
		failed(1<<63, greatest, 4), done(greatest-1, 0, most), due(greatest, 3, 1),
	)
}

// many are n payments of every third Id from 3 on, of all states, by seven channels.
func many(n int) []api.Payment {
	l := make([]api.Payment, n)
	for i := range l {
		l[i] = one(uint64(3*i+3), uint64(i%7), uint64(i%11+1), i%3+1)
	}
	return l
}

// begun are as many, all pending.
func begun(n int) []api.Payment {
	l := many(n)
	for i := range l {
		l[i].State = isPending
	}
	return l
}

// right are payments that may be.
func right() [][]api.Payment {
	l := [][]api.Payment{
		nil, {}, some(), begun(2), begun(full),
		{due(0, 0, 1)}, {due(greatest, greatest, most)}, {done(0, 0, most)}, {failed(greatest, greatest, 1)},
		{due(0, 0, 1), due(1, 0, 1)}, {due(0, 0, 1), done(greatest, 0, 1)}, {due(greatest-1, 0, 1), due(greatest, 0, 1)},
		{due(1<<63-1, 3, 1), done(1<<63, 2, 1), failed(1<<63+1, 1, 1)},
		// Together they are beyond an amount, and beyond 64 bits, which only Held asks for.
		{due(1, 1, most), due(2, 1, most)}, {due(1, 1, most), due(2, 1, most), due(3, 1, most), due(4, 1, most), due(5, 1, most)},
	}
	for _, n := range []int{1, 2, 3, 10, 100, full - 1, full} {
		l = append(l, many(n))
	}
	return l
}

// wrongOnes are payments that may not be by themselves.
func wrongOnes() map[string]api.Payment {
	m := map[string]api.Payment{
		"all zero":                 {},
		"no State":                 {Id: 7, N: 1},
		"a State alone":            {State: isPending},
		"N of 0":                   due(7, 5, 0),
		"N of 0, done":             done(7, 5, 0),
		"N of 0, failed":           failed(7, 5, 0),
		"N one above":              due(7, 5, most+1),
		"N one above, done":        done(7, 5, most+1),
		"N one above, failed":      failed(7, 5, most+1),
		"N beyond 63 bits":         due(7, 5, 1<<63),
		"N beyond 63 bits, and 1":  due(7, 5, 1<<63+1),
		"the greatest N":           due(7, 5, greatest),
		"the greatest N, done":     done(7, 5, greatest),
		"the greatest N but one":   due(7, 5, greatest-1),
		"wrong N, and wrong State": one(7, 5, 0, 0),
	}
	for _, state := range []int{0, 4, 5, 8, 100, 257, 1<<32 + isPending, -1, -2, -3, math.MaxInt, math.MinInt, math.MinInt + 1} {
		m[fmt.Sprintf("State %d", state)] = one(7, 5, 10, state)
	}
	return m
}

// wrong are payments that may not be, each by one thing.
func wrong() map[string][]api.Payment {
	m := map[string][]api.Payment{
		"Ids fall":                  {due(2, 1, 1), due(1, 1, 1)},
		"Ids fall to 0":             {due(greatest, 1, 1), due(0, 1, 1)},
		"Ids fall, beyond 63 bits":  {due(1<<63, 1, 1), due(1<<63-1, 1, 1)},
		"Ids fall at the end":       {due(1, 1, 1), due(2, 1, 1), due(4, 1, 1), due(3, 1, 1)},
		"Ids fall, one ended":       {due(2, 1, 1), failed(1, 1, 1)},
		"one Id twice":              {due(2, 1, 1), due(2, 3, 4)},
		"Id 0 twice":                {due(0, 1, 1), due(0, 3, 4)},
		"the greatest Id twice":     {due(greatest, 1, 1), due(greatest, 3, 4)},
		"one Id twice, one done":    {done(2, 1, 1), due(2, 1, 1)},
		"one Id twice, one failed":  {due(2, 1, 1), failed(2, 1, 1)},
		"one Id twice, apart":       {due(2, 1, 1), due(3, 1, 1), due(2, 1, 1)},
		"one Id twice at the end":   {due(1, 1, 1), due(3, 1, 1), due(3, 1, 1)},
		"twice the same":            {due(1, 5, 5), due(1, 5, 5)},
		"one too many":              many(full + 1),
		"one too many, all pending": begun(full + 1),
		"two too many":              many(full + 2),
		"much too many":             many(3000),
		"one too many, all zero":    make([]api.Payment, full+1),
	}
	for name, p := range wrongOnes() {
		m[name] = row(p)
		m[name+", ahead"] = row(p, due(8, 1, 1), due(9, 1, 1))
		m[name+", between"] = row(due(3, 1, 1), p, due(9, 1, 1))
		m[name+", behind"] = row(due(3, 1, 1), due(4, 1, 1), p)
	}
	for _, n := range []int{5, full} {
		for _, i := range []int{0, 1, n / 2, n - 2, n - 1} {
			l := many(n)
			l[i].Id = l[(i+n/2)%n].Id
			m[fmt.Sprintf("an Id of %d twice at %d", n, i)] = l
			l = many(n)
			l[i], l[(i+1)%n] = l[(i+1)%n], l[i]
			m[fmt.Sprintf("two of %d changed about at %d", n, i)] = l
		}
	}
	return m
}

func channels(l ...api.Channel) []api.Channel { return l }

func hold(id, n uint64) api.Hold { return api.Hold{Id: id, N: n} }

func with(id uint64, l ...api.Hold) api.Channel { return api.Channel{Id: id, Holds: l} }

// holders are the channels that hold just what is pending, in the order in which payments first ask for them.
func holders(l []api.Payment) []api.Channel {
	var told []api.Channel
	for _, p := range l {
		i := slices.IndexFunc(told, func(c api.Channel) bool { return c.Id == p.Chan })
		if i < 0 {
			i = len(told)
			told = append(told, with(p.Chan))
		}
		if p.State == isPending {
			told[i].Holds = append(told[i].Holds, hold(p.Id, p.N))
		}
	}
	return told
}

// empty are n channels without holds.
func empty(n int) []api.Channel {
	l := make([]api.Channel, n)
	for i := range l {
		l[i].Id = uint64(100 + 5*i)
	}
	return l
}

func copyOf(l []api.Channel) []api.Channel {
	told := slices.Clone(l)
	for i := range told {
		told[i].Holds = slices.Clone(told[i].Holds)
	}
	return told
}

// mayBe tells, in the chapter's words, whether one payment may be, and allMayBe, whether a row may be.
func mayBe(p api.Payment) bool {
	return 1 <= p.N && p.N <= most && 1 <= p.State && p.State <= 3
}

func allMayBe(l []api.Payment) bool {
	ids := map[uint64]int{}
	least := uint64(0)
	for _, p := range l {
		if !mayBe(p) || p.Id < least {
			return false
		}
		ids[p.Id]++
		least = p.Id
	}
	return len(l) <= full && len(ids) == len(l)
}

// find is the payment of that Id; the payments are gone through one by one.
func find(l []api.Payment, id uint64) (api.Payment, bool) {
	for _, p := range l {
		if p.Id == id {
			return p, true
		}
	}
	return api.Payment{}, false
}

// checkBy, getBy, heldBy, startBy, endBy and agreeBy are what the chapter's words tell.
func checkBy(l []api.Payment) api.Errno {
	if !allMayBe(l) {
		return api.ErrArg
	}
	return api.OK
}

func getBy(l []api.Payment, id uint64) (api.Payment, api.Errno) {
	p, there := find(l, id)
	switch {
	case !allMayBe(l):
		return api.Payment{}, api.ErrArg
	case !there:
		return api.Payment{}, api.ErrNone
	}
	return p, api.OK
}

func heldBy(l []api.Payment, by uint64) (uint64, api.Errno) {
	if !allMayBe(l) {
		return 0, api.ErrArg
	}
	// What is left of an amount, so that no sum goes around.
	left := uint64(most)
	for _, p := range l {
		if p.State != isPending || p.Chan != by {
			continue
		}
		if p.N > left {
			return 0, api.ErrArg
		}
		left -= p.N
	}
	return most - left, api.OK
}

func startBy(l []api.Payment, p api.Payment) ([]api.Payment, api.Errno) {
	if !allMayBe(l) || p.N == 0 || p.N > most || p.State != isPending {
		return nil, api.ErrArg
	}
	if _, there := find(l, p.Id); there {
		return nil, api.ErrThere
	}
	// Which Id is left out is told apart from whether one is, as each number is one.
	out, ended := uint64(0), 0
	for _, q := range l {
		if q.State != isPending {
			if ended == 0 || q.Id < out {
				out = q.Id
			}
			ended++
		}
	}
	if len(l) == full && ended == 0 {
		return nil, api.ErrFull
	}
	var told []api.Payment
	for _, q := range append(slices.Clone(l), p) {
		if len(l) < full || q.Id != out {
			told = append(told, q)
		}
	}
	slices.SortFunc(told, func(p, q api.Payment) int {
		if p.Id < q.Id {
			return -1
		}
		return 1
	})
	return told, api.OK
}

func endBy(l []api.Payment, id uint64, paid bool) ([]api.Payment, api.Errno) {
	p, there := find(l, id)
	switch {
	case !allMayBe(l):
		return nil, api.ErrArg
	case !there:
		return nil, api.ErrNone
	case p.State != isPending:
		return nil, api.ErrState
	}
	var told []api.Payment
	for _, q := range l {
		if q.Id == id && paid {
			q.State = isDone
		} else if q.Id == id {
			q.State = isFailed
		}
		told = append(told, q)
	}
	return told, api.OK
}

// holdsOf is how many holds of that Id and that N a channel of that Id has.
func holdsOf(cs []api.Channel, by, id, n uint64) int {
	count := 0
	for _, c := range cs {
		for _, h := range c.Holds {
			if c.Id == by && h.Id == id && h.N == n {
				count++
			}
		}
	}
	return count
}

func agreeBy(l []api.Payment, cs []api.Channel) (bool, api.Errno) {
	ids := map[uint64]int{}
	for _, c := range cs {
		ids[c.Id]++
	}
	if !allMayBe(l) || len(cs) > fullChannels || len(ids) < len(cs) {
		return false, api.ErrArg
	}
	all, held := 0, 0
	for _, c := range cs {
		all += len(c.Holds)
	}
	for _, p := range l {
		if p.State != isPending {
			continue
		}
		if holdsOf(cs, p.Chan, p.Id, p.N) != 1 {
			return false, api.OK
		}
		held++
	}
	// Each that is pending is one hold, each another one, so that others are there if there are more.
	return all == held, api.OK
}

// equal is worked out apart from Same.
func equal(a, b []api.Payment) bool {
	if len(a) != len(b) {
		return false
	}
	for i, p := range a {
		q := b[i]
		if p.Id != q.Id || p.Hash != q.Hash || p.Chan != q.Chan || p.N != q.N || p.State != q.State {
			return false
		}
	}
	return true
}

func equalChannels(a, b []api.Channel) bool {
	return slices.EqualFunc(a, b, func(c, d api.Channel) bool {
		return c.Id == d.Id && c.Local == d.Local && c.Remote == d.Remote && c.Reserve == d.Reserve && c.Most == d.Most && c.Open == d.Open && slices.Equal(c.Holds, d.Holds)
	})
}

// wipe writes over all payments, and those behind their end.
func wipe(l []api.Payment) {
	l = l[:cap(l)]
	for i := range l {
		l[i] = done(99, 99, 99)
	}
}

func wantGet(t *testing.T, l []api.Payment, id uint64, want api.Payment, wantE api.Errno) {
	t.Helper()
	if p, e := Get(l, id); p != want || e != wantE {
		t.Errorf("Get(%v, %d) = %v, %d; want %v, %d", l, id, p, e, want, wantE)
	}
}

func wantHeld(t *testing.T, l []api.Payment, by, want uint64, wantE api.Errno) {
	t.Helper()
	if n, e := Held(l, by); n != want || e != wantE {
		t.Errorf("Held(%v, %d) = %d, %d; want %d, %d", l, by, n, e, want, wantE)
	}
}

func wantStart(t *testing.T, l []api.Payment, p api.Payment, want []api.Payment, wantE api.Errno) {
	t.Helper()
	if got, e := Start(l, p); !equal(got, want) || e != wantE {
		t.Errorf("Start(%v, %v) = %v, %d; want %v, %d", l, p, got, e, want, wantE)
	}
}

func wantEnd(t *testing.T, l []api.Payment, id uint64, paid bool, want []api.Payment, wantE api.Errno) {
	t.Helper()
	if got, e := End(l, id, paid); !equal(got, want) || e != wantE {
		t.Errorf("End(%v, %d, %v) = %v, %d; want %v, %d", l, id, paid, got, e, want, wantE)
	}
}

func wantAgree(t *testing.T, l []api.Payment, cs []api.Channel, want bool, wantE api.Errno) {
	t.Helper()
	if is, e := Agree(l, cs); is != want || e != wantE {
		t.Errorf("Agree(%v, %v) = %v, %d; want %v, %d", l, cs, is, e, want, wantE)
	}
}

// askedOf are Ids and amounts that the payments at the front, in the middle and at the end have, and those beside them; and Chans.
type askedOf struct {
	ids, amounts, chans []uint64
}

func closely(l []api.Payment) askedOf {
	ids := map[uint64]int{0: 0, 1: 0, 7: 0, greatest: 0}
	amounts := map[uint64]int{0: 0, 1: 0, most: 0, most + 1: 0, 1 << 63: 0, greatest: 0}
	chans := map[uint64]int{0: 0, 1: 0, 8: 0, greatest: 0}
	for i, p := range l {
		if i >= 3 && i < len(l)-3 && i != len(l)/2 {
			continue
		}
		ids[p.Id-1], ids[p.Id], ids[p.Id+1] = 0, 0, 0
		amounts[p.N-1], amounts[p.N], amounts[p.N+1] = 0, 0, 0
		chans[p.Chan] = 0
	}
	return askedOf{slices.Sorted(maps.Keys(ids)), slices.Sorted(maps.Keys(amounts)), slices.Sorted(maps.Keys(chans))}
}

// holdAll holds each call against the chapter's words, with all that is asked of them.
func holdAll(t *testing.T, l []api.Payment, a askedOf) {
	t.Helper()
	stays := slices.Clone(l)
	if e := Check(l); e != checkBy(l) {
		t.Errorf("Check(%v) = %d; want %d", l, e, checkBy(l))
	}
	for _, by := range a.chans {
		want, e := heldBy(l, by)
		wantHeld(t, l, by, want, e)
	}
	for _, id := range a.ids {
		holdOne(t, l, id, a)
	}
	for _, cs := range [][]api.Channel{nil, holders(l), holders(some()), empty(fullChannels), empty(fullChannels + 1), channels(with(0), with(0))} {
		want, e := agreeBy(l, cs)
		wantAgree(t, l, cs, want, e)
	}
	if !equal(l, stays) {
		t.Errorf("what was handed in changed: %v; want %v", l, stays)
	}
}

// holdOne holds the calls of one Id against the chapter's words.
func holdOne(t *testing.T, l []api.Payment, id uint64, a askedOf) {
	t.Helper()
	p, e := getBy(l, id)
	wantGet(t, l, id, p, e)
	for _, paid := range []bool{false, true} {
		want, e := endBy(l, id, paid)
		wantEnd(t, l, id, paid, want, e)
	}
	for _, n := range a.amounts {
		for state := -1; state <= 4; state++ {
			p := one(id, a.chans[0], n, state)
			want, e := startBy(l, p)
			wantStart(t, l, p, want, e)
		}
	}
}

// P13.1
func TestCheck(t *testing.T) {
	for _, l := range right() {
		if e := Check(l); e != api.OK {
			t.Errorf("Check(%v) = %d", l, e)
		}
	}
	for name, l := range wrong() {
		if e := Check(l); e != api.ErrArg {
			t.Errorf("%s: Check(%v) = %d", name, l, e)
		}
	}
}

// P13.1: how many there may be.
func TestCheckHowMany(t *testing.T) {
	for n := range 2 * full {
		want := api.OK
		if n > full {
			want = api.ErrArg
		}
		if e := Check(many(n)); e != want {
			t.Errorf("Check of %d payments = %d; want %d", n, e, want)
		}
	}
}

// P13.1: each pair of places with one Id at both, or with theirs changed about.
func TestCheckEachPair(t *testing.T) {
	const n = 40
	for i := range n {
		for j := range i {
			l := many(n)
			l[i].Id = l[j].Id
			if e := Check(l); e != api.ErrArg {
				t.Errorf("Check, one Id at %d and %d = %d", j, i, e)
			}
			l = many(n)
			l[i].Id, l[j].Id = l[j].Id, l[i].Id
			if e := Check(l); e != api.ErrArg {
				t.Errorf("Check, Ids of %d and %d changed about = %d", j, i, e)
			}
		}
	}
}

// P13.1: each place of full payments with one that may not be by itself, or with one at an edge.
func TestCheckEachPlace(t *testing.T) {
	for i := range full {
		for name, p := range wrongOnes() {
			l := many(full)
			p.Id = l[i].Id
			l[i] = p
			if e := Check(l); e != api.ErrArg {
				t.Errorf("Check, %s at %d = %d", name, i, e)
			}
		}
		for _, p := range row(due(0, 0, 1), done(0, 0, most), failed(0, greatest, 1), due(0, greatest, most)) {
			l := many(full)
			p.Id = l[i].Id
			l[i] = p
			if e := Check(l); e != api.OK {
				t.Errorf("Check, %v at %d = %d", p, i, e)
			}
		}
	}
}

// P13.1: one payment, all its parts at edges.
func TestOneAtEdges(t *testing.T) {
	few := askedOf{[]uint64{0, 1, greatest}, []uint64{0, 1, 2, most, most + 1, greatest}, []uint64{0, 1, 5, greatest}}
	for _, id := range []uint64{0, 1, greatest} {
		for _, n := range []uint64{0, 1, 2, most - 1, most, most + 1, greatest} {
			for _, by := range []uint64{0, 1, 5, greatest} {
				for state := -1; state <= 5; state++ {
					holdAll(t, row(one(id, by, n, state)), few)
				}
			}
		}
	}
}

// others are the row changed in each way that tells two rows apart.
func others(l []api.Payment) map[string][]api.Payment {
	m := map[string][]api.Payment{}
	for i := range l {
		for name, change := range map[string]func(l []api.Payment) []api.Payment{
			"Id by 1":           func(l []api.Payment) []api.Payment { l[i].Id ^= 1; return l },
			"Id by much":        func(l []api.Payment) []api.Payment { l[i].Id ^= 1 << 63; return l },
			"Hash by 1":         func(l []api.Payment) []api.Payment { l[i].Hash ^= 1; return l },
			"Hash by much":      func(l []api.Payment) []api.Payment { l[i].Hash ^= 1 << 63; return l },
			"Chan by 1":         func(l []api.Payment) []api.Payment { l[i].Chan ^= 1; return l },
			"Chan by much":      func(l []api.Payment) []api.Payment { l[i].Chan ^= 1 << 63; return l },
			"N by 1":            func(l []api.Payment) []api.Payment { l[i].N ^= 1; return l },
			"N by much":         func(l []api.Payment) []api.Payment { l[i].N ^= 1 << 62; return l },
			"State by 1":        func(l []api.Payment) []api.Payment { l[i].State ^= 1; return l },
			"State by much":     func(l []api.Payment) []api.Payment { l[i].State ^= 1 << 40; return l },
			"State below 0":     func(l []api.Payment) []api.Payment { l[i].State = -l[i].State; return l },
			"Id and Hash":       func(l []api.Payment) []api.Payment { l[i].Id, l[i].Hash = l[i].Hash, l[i].Id; return l },
			"Hash and Chan":     func(l []api.Payment) []api.Payment { l[i].Hash, l[i].Chan = l[i].Chan, l[i].Hash; return l },
			"Chan and N":        func(l []api.Payment) []api.Payment { l[i].Chan, l[i].N = l[i].N, l[i].Chan; return l },
			"cut off":           func(l []api.Payment) []api.Payment { return l[:i] },
			"taken out":         func(l []api.Payment) []api.Payment { return slices.Delete(l, i, i+1) },
			"put in twice":      func(l []api.Payment) []api.Payment { return slices.Insert(l, i, l[i]) },
			"one behind":        func(l []api.Payment) []api.Payment { return append(l, api.Payment{}) },
			"two changed about": func(l []api.Payment) []api.Payment { l[i], l[(i+1)%len(l)] = l[(i+1)%len(l)], l[i]; return l },
		} {
			m[fmt.Sprintf("%s at %d", name, i)] = change(slices.Clone(l))
		}
	}
	return m
}

// P13.1
func TestSame(t *testing.T) {
	if !Same(nil, []api.Payment{}) || !Same([]api.Payment{}, nil) || !Same(nil, nil) {
		t.Error("no payments are not the same as none")
	}
	// Payments that may not be are held against others too, as Same tells no error.
	rows := right()
	for _, l := range wrong() {
		rows = append(rows, l)
	}
	for i, l := range rows {
		if !Same(l, slices.Clone(l)) {
			t.Errorf("%v are not the same as themselves", l)
		}
		for _, m := range rows[:i] {
			if Same(l, m) != equal(l, m) || Same(m, l) != equal(l, m) {
				t.Errorf("Same(%v, %v) is wrong", l, m)
			}
		}
	}
}

// P13.1: each part tells two rows apart, and so do their order and how many there are.
func TestSameTellsApart(t *testing.T) {
	for name, l := range others(some()) {
		if Same(l, some()) || Same(some(), l) {
			t.Errorf("%s is not seen", name)
		}
	}
}

// P13.1
func TestGet(t *testing.T) {
	three := row(due(2, 8, 20), done(5, 9, 50), failed(8, 7, 80))
	for _, x := range []struct {
		l    []api.Payment
		id   uint64
		want api.Payment
		e    api.Errno
	}{
		{nil, 0, api.Payment{}, api.ErrNone}, {row(), 7, api.Payment{}, api.ErrNone}, {nil, greatest, api.Payment{}, api.ErrNone},
		{row(due(7, 1, 5)), 7, api.Payment{Id: 7, Hash: 993, Chan: 1, N: 5, State: 1}, api.OK},
		{row(due(0, 0, 1)), 0, due(0, 0, 1), api.OK}, {row(done(greatest, greatest, most)), greatest, done(greatest, greatest, most), api.OK},
		{three, 2, due(2, 8, 20), api.OK}, {three, 5, done(5, 9, 50), api.OK}, {three, 8, failed(8, 7, 80), api.OK},
		// One that is not there: ahead of all, between two, behind all, and one that is only a Chan, an N or a Hash.
		{three, 0, api.Payment{}, api.ErrNone}, {three, 1, api.Payment{}, api.ErrNone}, {three, 3, api.Payment{}, api.ErrNone}, {three, 6, api.Payment{}, api.ErrNone},
		{three, 9, api.Payment{}, api.ErrNone}, {three, 7, api.Payment{}, api.ErrNone}, {three, 20, api.Payment{}, api.ErrNone},
		{three, 992, api.Payment{}, api.ErrNone}, {three, greatest, api.Payment{}, api.ErrNone},
	} {
		wantGet(t, x.l, x.id, x.want, x.e)
	}
	for _, l := range right() {
		for _, p := range l {
			wantGet(t, l, p.Id, p, api.OK)
		}
	}
}

// P13.1
func TestHeld(t *testing.T) {
	several := row(due(1, 4, 10), done(2, 4, 20), due(3, 5, 40), failed(4, 4, 80), due(5, 4, 160), due(6, 0, 320), done(7, 6, 640))
	for _, x := range []struct {
		l        []api.Payment
		by, want uint64
		e        api.Errno
	}{
		{nil, 0, 0, api.OK}, {row(), 4, 0, api.OK}, {nil, greatest, 0, api.OK},
		// Just what is pending, and of that Chan.
		{several, 4, 170, api.OK}, {several, 5, 40, api.OK}, {several, 0, 320, api.OK}, {several, 6, 0, api.OK}, {several, 1, 0, api.OK}, {several, greatest, 0, api.OK},
		{row(due(7, 1, 5)), 1, 5, api.OK}, {row(due(7, 1, 5)), 7, 0, api.OK}, {row(due(7, 1, 5)), 5, 0, api.OK}, {row(due(7, 1, 5)), 993, 0, api.OK},
		{row(done(7, 1, 5)), 1, 0, api.OK}, {row(failed(7, 1, 5)), 1, 0, api.OK},
		{row(due(0, 0, 1)), 0, 1, api.OK}, {row(due(0, greatest, 1)), greatest, 1, api.OK}, {row(due(0, greatest, 1)), 0, 0, api.OK},
		// Just MaxMoney together, and one more.
		{row(due(1, 1, most)), 1, most, api.OK}, {row(due(1, 1, most-1)), 1, most - 1, api.OK},
		{row(due(1, 1, most-1), due(2, 1, 1)), 1, most, api.OK}, {row(due(1, 1, 1), due(2, 1, most-1)), 1, most, api.OK},
		{row(due(1, 1, most), due(2, 1, 1)), 1, 0, api.ErrArg}, {row(due(1, 1, 1), due(2, 1, most)), 1, 0, api.ErrArg},
		{row(due(1, 1, most-1), due(2, 1, 2)), 1, 0, api.ErrArg}, {row(due(1, 1, most), due(2, 1, most)), 1, 0, api.ErrArg},
		{row(due(1, 1, most/2), due(2, 1, most/2)), 1, most, api.OK}, {row(due(1, 1, most/2), due(2, 1, most/2), due(3, 1, 1)), 1, 0, api.ErrArg},
		// What is of another Chan, or not pending, is not too much.
		{row(due(1, 1, most), due(2, 2, 1)), 1, most, api.OK}, {row(due(1, 1, most), due(2, 2, 1)), 2, 1, api.OK}, {row(due(1, 1, most), due(2, 1, 1)), 2, 0, api.OK},
		{row(due(1, 1, most), done(2, 1, most)), 1, most, api.OK}, {row(failed(1, 1, most), due(2, 1, most)), 1, most, api.OK},
		// Beyond 64 bits it goes around to 0, and to a small amount.
		{row(due(1, 1, most), due(2, 1, most), due(3, 1, most), due(4, 1, most)), 1, 0, api.ErrArg},
		{row(due(1, 1, most), due(2, 1, most), due(3, 1, most), due(4, 1, most), due(5, 1, 7)), 1, 0, api.ErrArg},
		{row(due(1, 1, most), due(2, 1, most), due(3, 1, most), due(4, 1, most), due(5, 2, 7)), 2, 7, api.OK},
		{some(), 3, 11, api.OK}, {some(), greatest, most, api.OK}, {some(), 0, 6, api.OK}, {some(), 1, 0, api.OK},
	} {
		wantHeld(t, x.l, x.by, x.want, x.e)
	}
}

// P13.1: full payments of one Chan that are just MaxMoney together, and each of them one more.
func TestHeldFull(t *testing.T) {
	l := begun(full)
	for i := range l {
		l[i].Chan, l[i].N = 9, most/full
	}
	wantHeld(t, l, 9, most, api.OK)
	for i := range l {
		more := slices.Clone(l)
		more[i].N++
		wantHeld(t, more, 9, 0, api.ErrArg)
		for _, state := range []int{isDone, isFailed} {
			more[i].State = state
			wantHeld(t, more, 9, most-most/full, api.OK)
		}
		more[i].State, more[i].Chan = isPending, 8
		wantHeld(t, more, 9, most-most/full, api.OK)
		wantHeld(t, more, 8, most/full+1, api.OK)
	}
	for i := range l {
		l[i].N = most
	}
	wantHeld(t, l, 9, 0, api.ErrArg)
}

// P13.2
func TestStart(t *testing.T) {
	three := row(due(2, 1, 20), done(5, 2, 50), failed(8, 3, 80))
	for _, x := range []struct {
		l    []api.Payment
		p    api.Payment
		want []api.Payment
		e    api.Errno
	}{
		{nil, due(7, 1, 10), row(due(7, 1, 10)), api.OK}, {row(), due(7, 1, 10), row(due(7, 1, 10)), api.OK},
		{nil, due(0, 0, 1), row(due(0, 0, 1)), api.OK}, {nil, due(greatest, greatest, most), row(due(greatest, greatest, most)), api.OK},
		{nil, due(7, 1, most-1), row(due(7, 1, most-1)), api.OK},
		{nil, api.Payment{Id: 1, Hash: 2, Chan: 3, N: 4, State: 1}, row(api.Payment{Id: 1, Hash: 2, Chan: 3, N: 4, State: 1}), api.OK},
		{nil, api.Payment{N: 1, State: 1}, row(api.Payment{N: 1, State: 1}), api.OK},
		{nil, api.Payment{Id: 1, Hash: greatest, Chan: greatest, N: most, State: 1}, row(api.Payment{Id: 1, Hash: greatest, Chan: greatest, N: most, State: 1}), api.OK},
		// Ahead of all, between two, behind all.
		{three, due(0, 4, 1), row(due(0, 4, 1), due(2, 1, 20), done(5, 2, 50), failed(8, 3, 80)), api.OK},
		{three, due(1, 4, 1), row(due(1, 4, 1), due(2, 1, 20), done(5, 2, 50), failed(8, 3, 80)), api.OK},
		{three, due(3, 4, 2), row(due(2, 1, 20), due(3, 4, 2), done(5, 2, 50), failed(8, 3, 80)), api.OK},
		{three, due(7, 4, 3), row(due(2, 1, 20), done(5, 2, 50), due(7, 4, 3), failed(8, 3, 80)), api.OK},
		{three, due(9, 1, 4), row(due(2, 1, 20), done(5, 2, 50), failed(8, 3, 80), due(9, 1, 4)), api.OK},
		{three, due(greatest, 1, most), row(due(2, 1, 20), done(5, 2, 50), failed(8, 3, 80), due(greatest, 1, most)), api.OK},
		// One that is there, whatever it is.
		{three, due(2, 1, 20), nil, api.ErrThere}, {three, due(2, 9, 1), nil, api.ErrThere}, {three, due(5, 2, 50), nil, api.ErrThere},
		{three, due(5, 9, 1), nil, api.ErrThere}, {three, due(8, 3, 80), nil, api.ErrThere}, {three, due(8, 9, most), nil, api.ErrThere},
		{row(done(0, 1, 1)), due(0, 1, 1), nil, api.ErrThere}, {row(failed(greatest, 1, 1)), due(greatest, 2, 2), nil, api.ErrThere},
		// One of another Id with the same Hash is another one.
		{row(due(2, 1, 20)), api.Payment{Id: 3, Hash: 998, Chan: 1, N: 20, State: 1}, row(due(2, 1, 20), api.Payment{Id: 3, Hash: 998, Chan: 1, N: 20, State: 1}), api.OK},
		// Together they are above MaxMoney, which is not asked for.
		{row(due(2, 1, most)), due(3, 1, most), row(due(2, 1, most), due(3, 1, most)), api.OK},
	} {
		wantStart(t, x.l, x.p, x.want, x.e)
	}
}

// P13.2: a payment that can't begin is ErrArg, ahead of one that is there, and of payments that are full.
func TestStartWrong(t *testing.T) {
	wrongs := wrongOnes()
	for _, state := range []int{isDone, isFailed} {
		wrongs[fmt.Sprintf("State %d", state)] = one(7, 5, 10, state)
	}
	for _, l := range [][]api.Payment{nil, row(due(7, 5, 10)), row(done(7, 5, 10)), some(), many(full), begun(full)} {
		for name, p := range wrongs {
			for _, id := range []uint64{p.Id, 0, 1, 3, 5, 3 * full, greatest} {
				p.Id = id
				if got, e := Start(l, p); len(got) != 0 || e != api.ErrArg {
					t.Errorf("%s: Start(%v, %v) = %v, %d", name, l, p, got, e)
				}
			}
		}
	}
}

// P13.2: one after the other up to MaxPayments, with Ids that rise, that fall, and that jump about.
func TestStartUpToMaxPayments(t *testing.T) {
	for name, id := range map[string]func(i uint64) uint64{
		"rise":       func(i uint64) uint64 { return 2*i + 1 },
		"fall":       func(i uint64) uint64 { return 2*(full-1-i) + 1 },
		"jump about": func(i uint64) uint64 { return 2*(i*77%full) + 1 },
	} {
		var l, want []api.Payment
		for i := range uint64(full) {
			next, e := Start(l, due(id(i), i%5, i+1))
			if e != api.OK || len(next) != len(l)+1 {
				t.Fatalf("%s: the %d. is %d", name, i, e)
			}
			l = next
			want = append(want, due(id(i), i%5, i+1))
		}
		slices.SortFunc(want, func(p, q api.Payment) int { return int(p.Id) - int(q.Id) })
		if !equal(l, want) {
			t.Errorf("%s: got %v; want %v", name, l, want)
		}
		for _, free := range []uint64{0, 2, full, 2 * full, greatest} {
			wantStart(t, l, due(free, 1, 1), nil, api.ErrFull)
		}
	}
}

// P13.2: ErrArg is told ahead of ErrThere, and that ahead of ErrFull.
func TestStartErrorsInOrder(t *testing.T) {
	for _, l := range [][]api.Payment{begun(full), many(full)} {
		allPending := l[1].State == isPending
		for _, p := range l {
			wantStart(t, l, due(p.Id, p.Chan, p.N), nil, api.ErrThere)
			wantStart(t, l, due(p.Id, 99, most), nil, api.ErrThere)
			wantStart(t, l, due(p.Id, p.Chan, 0), nil, api.ErrArg)
			wantStart(t, l, due(p.Id, p.Chan, most+1), nil, api.ErrArg)
			wantStart(t, l, done(p.Id, p.Chan, p.N), nil, api.ErrArg)
			wantStart(t, l, failed(p.Id, p.Chan, p.N), nil, api.ErrArg)
			wantStart(t, l, due(p.Id+1, p.Chan, 0), nil, api.ErrArg)
			wantStart(t, l, done(p.Id-1, p.Chan, p.N), nil, api.ErrArg)
			if allPending {
				wantStart(t, l, due(p.Id+1, p.Chan, p.N), nil, api.ErrFull)
				wantStart(t, l, due(p.Id-1, 99, most), nil, api.ErrFull)
			}
		}
	}
	// One fewer is not full, and nothing is left out.
	for _, l := range [][]api.Payment{begun(full)[:full-1], many(full)[:full-1], many(full - 1)} {
		wantStart(t, l, due(greatest, 3, 4), append(slices.Clone(l), due(greatest, 3, 4)), api.OK)
		wantStart(t, l, due(0, 3, 4), slices.Concat(row(due(0, 3, 4)), l), api.OK)
		wantStart(t, l, due(4, 3, 4), slices.Concat(l[:1], row(due(4, 3, 4)), l[1:]), api.OK)
		wantStart(t, l, due(l[0].Id, 3, 4), nil, api.ErrThere)
	}
}

// P13.2: of full payments one that is not pending is left out, at each place, where the new one is ahead of it, behind it, or just in its room.
func TestStartLeavesOut(t *testing.T) {
	for _, state := range []int{isDone, isFailed} {
		for i := range full {
			l := begun(full)
			l[i].State = state
			left := slices.Delete(slices.Clone(l), i, i+1)
			at := l[i].Id
			wantStart(t, l, due(at, 1, 1), nil, api.ErrThere)
			wantStart(t, l, due(at-1, 6, 5), slices.Insert(slices.Clone(left), i, due(at-1, 6, 5)), api.OK)
			wantStart(t, l, due(at+1, 6, 5), slices.Insert(slices.Clone(left), i, due(at+1, 6, 5)), api.OK)
			wantStart(t, l, due(0, 6, 5), slices.Insert(slices.Clone(left), 0, due(0, 6, 5)), api.OK)
			wantStart(t, l, due(greatest, 6, 5), append(slices.Clone(left), due(greatest, 6, 5)), api.OK)
			wantStart(t, l, due(3*full/2+1, 6, 5), slices.Insert(slices.Clone(left), placeIn(left, 3*full/2+1), due(3*full/2+1, 6, 5)), api.OK)
		}
	}
}

// placeIn is how many payments are of a lesser Id.
func placeIn(l []api.Payment, id uint64) int {
	at := 0
	for _, p := range l {
		if p.Id < id {
			at++
		}
	}
	return at
}

// P13.2: of several that are not pending just the one of the least Id is left out, whichever of them failed.
func TestStartLeavesOutTheLeast(t *testing.T) {
	r := rand.New(rand.NewSource(13))
	for range 600 {
		l := begun(full)
		least := full
		for range 2 + r.Intn(5) {
			i := r.Intn(full)
			l[i].State = isDone + r.Intn(2)
			least = min(least, i)
		}
		left := slices.Delete(slices.Clone(l), least, least+1)
		id := uint64(3*r.Intn(full+1) + 1)
		wantStart(t, l, due(id, 2, 3), slices.Insert(slices.Clone(left), placeIn(left, id), due(id, 2, 3)), api.OK)
	}
	// All ended: the first is left out, though the new one is ahead of it.
	l := begun(full)
	for i := range l {
		l[i].State = isDone + i%2
	}
	wantStart(t, l, due(0, 2, 3), slices.Concat(row(due(0, 2, 3)), l[1:]), api.OK)
	wantStart(t, l, due(greatest, 2, 3), slices.Concat(l[1:], row(due(greatest, 2, 3))), api.OK)
	wantStart(t, l, due(4, 2, 3), slices.Concat(row(due(4, 2, 3)), l[1:]), api.OK)
	// Id 0, and one that is there alone beyond 63 bits, are left out as any other.
	l = begun(full)
	l[0] = done(0, 1, 1)
	wantStart(t, l, due(1, 2, 3), slices.Concat(row(due(1, 2, 3)), l[1:]), api.OK)
	l = begun(full)
	l[full-1] = failed(greatest, 1, 1)
	wantStart(t, l, due(greatest-1, 2, 3), slices.Concat(l[:full-1], row(due(greatest-1, 2, 3))), api.OK)
}

// P13.2: one after the other into full payments, all of which ended, till all are pending.
func TestStartTillFull(t *testing.T) {
	l := many(full)
	for i := range l {
		l[i].State = isFailed - i%2
	}
	for i := range full {
		p := due(uint64(3*(full-i)+1), 4, 1)
		want, _ := startBy(l, p)
		wantStart(t, l, p, want, api.OK)
		if _, there := find(want, uint64(3*i+3)); len(want) != full || there {
			t.Fatalf("the %d. was not left out", i)
		}
		l = want
	}
	wantStart(t, l, due(0, 1, 1), nil, api.ErrFull)
	// One that was left out is there no more, and can begin anew.
	ended, e := End(l, l[5].Id, false)
	if e != api.OK {
		t.Fatalf("End = %d", e)
	}
	wantStart(t, ended, due(3, 1, 1), slices.Concat(row(due(3, 1, 1)), l[:5], l[6:]), api.OK)
}

// P13.2
func TestEnd(t *testing.T) {
	three := row(due(2, 1, 20), due(5, 2, 50), due(8, 3, 80))
	for _, x := range []struct {
		l    []api.Payment
		id   uint64
		paid bool
		want []api.Payment
		e    api.Errno
	}{
		{nil, 0, true, nil, api.ErrNone}, {nil, 7, false, nil, api.ErrNone}, {row(), greatest, true, nil, api.ErrNone},
		{row(due(7, 1, 10)), 7, true, row(done(7, 1, 10)), api.OK}, {row(due(7, 1, 10)), 7, false, row(failed(7, 1, 10)), api.OK},
		{row(due(0, 0, 1)), 0, true, row(done(0, 0, 1)), api.OK}, {row(due(0, 0, 1)), 0, false, row(failed(0, 0, 1)), api.OK},
		{row(due(greatest, greatest, most)), greatest, true, row(done(greatest, greatest, most)), api.OK},
		{row(due(greatest, greatest, most)), greatest, false, row(failed(greatest, greatest, most)), api.OK},
		{row(api.Payment{Id: 1, Hash: 2, Chan: 3, N: 4, State: 1}), 1, true, row(api.Payment{Id: 1, Hash: 2, Chan: 3, N: 4, State: 2}), api.OK},
		{row(api.Payment{Id: 1, Hash: 2, Chan: 3, N: 4, State: 1}), 1, false, row(api.Payment{Id: 1, Hash: 2, Chan: 3, N: 4, State: 3}), api.OK},
		// What ended can't end again, neither as it did nor otherwise.
		{row(done(7, 1, 10)), 7, true, nil, api.ErrState}, {row(done(7, 1, 10)), 7, false, nil, api.ErrState},
		{row(failed(7, 1, 10)), 7, true, nil, api.ErrState}, {row(failed(7, 1, 10)), 7, false, nil, api.ErrState},
		{three, 2, true, row(done(2, 1, 20), due(5, 2, 50), due(8, 3, 80)), api.OK},
		{three, 5, false, row(due(2, 1, 20), failed(5, 2, 50), due(8, 3, 80)), api.OK},
		{three, 8, true, row(due(2, 1, 20), due(5, 2, 50), done(8, 3, 80)), api.OK},
		// One that is not there: ahead of all, between two, behind all, and one that is only a Chan, an N or a Hash.
		{three, 0, true, nil, api.ErrNone}, {three, 1, true, nil, api.ErrNone}, {three, 3, false, nil, api.ErrNone}, {three, 7, true, nil, api.ErrNone},
		{three, 9, false, nil, api.ErrNone}, {three, 20, true, nil, api.ErrNone}, {three, 998, true, nil, api.ErrNone}, {three, greatest, false, nil, api.ErrNone},
		{some(), 5, true, nil, api.ErrState}, {some(), 9, true, nil, api.ErrState}, {some(), 6, true, nil, api.ErrNone}, {some(), 1<<63 + 1, true, nil, api.ErrNone},
	} {
		wantEnd(t, x.l, x.id, x.paid, x.want, x.e)
	}
}

// P13.1, P13.2: each place of full payments; just that one changes, and just its State.
func TestEachPlace(t *testing.T) {
	for i, p := range many(full) {
		l := many(full)
		l[i].State = isPending
		p.State = isPending
		wantGet(t, l, p.Id, p, api.OK)
		for _, beside := range []uint64{p.Id - 1, p.Id + 1} {
			wantGet(t, l, beside, api.Payment{}, api.ErrNone)
			wantEnd(t, l, beside, true, nil, api.ErrNone)
			wantEnd(t, l, beside, false, nil, api.ErrNone)
		}
		want := slices.Clone(l)
		want[i].State = isDone
		wantEnd(t, l, p.Id, true, want, api.OK)
		wantEnd(t, want, p.Id, false, nil, api.ErrState)
		want[i].State = isFailed
		wantEnd(t, l, p.Id, false, want, api.OK)
		wantEnd(t, want, p.Id, true, nil, api.ErrState)
	}
}

// P13.3
func TestAgree(t *testing.T) {
	two := row(due(2, 1, 20), done(3, 1, 30), failed(4, 2, 40), due(5, 2, 50))
	for _, x := range []struct {
		l    []api.Payment
		cs   []api.Channel
		want bool
	}{
		{nil, nil, true}, {row(), channels(), true}, {nil, channels(with(0)), true}, {nil, channels(with(1), with(0), with(greatest)), true},
		{row(done(1, 1, 1)), nil, true}, {row(failed(1, 1, 1)), nil, true}, {row(done(1, 1, 1), failed(2, 2, 2)), channels(with(1), with(2)), true},
		{nil, empty(fullChannels), true},
		{row(due(1, 1, 1)), channels(with(1, hold(1, 1))), true}, {row(due(0, 0, 1)), channels(with(0, hold(0, 1))), true},
		{row(due(greatest, greatest, most)), channels(with(greatest, hold(greatest, most))), true},
		{two, channels(with(1, hold(2, 20)), with(2, hold(5, 50))), true}, {two, channels(with(2, hold(5, 50)), with(1, hold(2, 20))), true},
		{two, channels(with(9), with(2, hold(5, 50)), with(8), with(1, hold(2, 20)), with(0)), true},
		{row(due(2, 1, 20), due(5, 1, 50)), channels(with(1, hold(5, 50), hold(2, 20))), true},
		// A pending payment without a hold.
		{row(due(1, 1, 1)), nil, false}, {row(due(1, 1, 1)), channels(with(1)), false}, {two, channels(with(1, hold(2, 20))), false},
		{two, channels(with(1, hold(2, 20)), with(2)), false}, {two, channels(with(1), with(2, hold(5, 50))), false}, {two, nil, false}, {row(due(0, 0, 1)), channels(with(0)), false},
		// A hold of another N.
		{row(due(1, 1, 1)), channels(with(1, hold(1, 2))), false}, {row(due(1, 1, 1)), channels(with(1, hold(1, 0))), false},
		{row(due(1, 1, most)), channels(with(1, hold(1, most+1))), false}, {row(due(1, 1, 1)), channels(with(1, hold(1, 1<<63+1))), false},
		{two, channels(with(1, hold(2, 50)), with(2, hold(5, 20))), false},
		// A hold of another Chan.
		{row(due(1, 1, 1)), channels(with(2, hold(1, 1))), false}, {row(due(1, 1, 1)), channels(with(1), with(2, hold(1, 1))), false},
		{row(due(1, 1, 1)), channels(with(0, hold(1, 1))), false}, {two, channels(with(1, hold(5, 50)), with(2, hold(2, 20))), false},
		{two, channels(with(1, hold(2, 20), hold(5, 50)), with(2)), false},
		// A hold of a payment that ended, or that is not there.
		{row(done(1, 1, 1)), channels(with(1, hold(1, 1))), false}, {row(failed(1, 1, 1)), channels(with(1, hold(1, 1))), false},
		{nil, channels(with(1, hold(1, 1))), false}, {row(), channels(with(1), with(2, hold(7, 7))), false},
		{two, channels(with(1, hold(2, 20), hold(3, 30)), with(2, hold(5, 50))), false}, {two, channels(with(1, hold(2, 20)), with(2, hold(4, 40), hold(5, 50))), false},
		{two, channels(with(1, hold(2, 20), hold(7, 70)), with(2, hold(5, 50))), false}, {two, channels(with(1, hold(2, 20)), with(2, hold(5, 50)), with(3, hold(7, 70))), false},
		// A hold all of whose parts are 0, which no payment can be of.
		{nil, channels(with(0, hold(0, 0))), false}, {row(done(0, 0, 1)), channels(with(0, hold(0, 0))), false}, {row(due(0, 0, 1)), channels(with(0, hold(0, 0))), false},
		{row(due(0, 0, 1)), channels(with(0, hold(0, 1), hold(0, 0))), false}, {row(due(1, 0, 1)), channels(with(0, hold(1, 1), hold(0, 0))), false},
		{two, channels(with(0, hold(0, 0)), with(1, hold(2, 20)), with(2, hold(5, 50))), false},
		// One Id in two channels, or twice in one.
		{row(due(1, 1, 1)), channels(with(1, hold(1, 1)), with(2, hold(1, 1))), false}, {row(due(1, 1, 1)), channels(with(2, hold(1, 1)), with(1, hold(1, 1))), false},
		{row(due(1, 1, 1)), channels(with(1, hold(1, 1), hold(1, 1))), false}, {row(due(1, 1, 1)), channels(with(1, hold(1, 1), hold(1, 2))), false},
		{row(due(1, 1, 1)), channels(with(1, hold(1, 2), hold(1, 1))), false}, {row(due(0, 0, 1)), channels(with(0, hold(0, 1), hold(0, 1))), false},
		{two, channels(with(1, hold(2, 20), hold(2, 20))), false}, {two, channels(with(1, hold(2, 20), hold(2, 20)), with(2, hold(5, 50))), false},
		{two, channels(with(1, hold(2, 20)), with(2, hold(2, 20), hold(5, 50))), false}, {two, channels(with(1, hold(2, 20)), with(2, hold(2, 20))), false},
	} {
		wantAgree(t, x.l, x.cs, x.want, api.OK)
	}
}

// parted are channels changed in each way by which payments that agreed with them do so no more.
func parted(l []api.Payment, cs []api.Channel) map[string][]api.Channel {
	m := map[string][]api.Channel{}
	put := func(name string, i, j int, change func(c *api.Channel, h *api.Hold)) {
		changed := copyOf(cs)
		if len(changed[i].Holds) == 0 {
			changed[i].Holds = []api.Hold{{}}
			change(&changed[i], &changed[i].Holds[0])
			changed[i].Holds = changed[i].Holds[1:]
		} else {
			change(&changed[i], &changed[i].Holds[j])
		}
		m[fmt.Sprintf("%s at %d, %d", name, i, j)] = changed
	}
	for i, c := range cs {
		for j, h := range c.Holds {
			put("N one more", i, j, func(_ *api.Channel, h *api.Hold) { h.N++ })
			put("N one less", i, j, func(_ *api.Channel, h *api.Hold) { h.N-- })
			put("N by much", i, j, func(_ *api.Channel, h *api.Hold) { h.N ^= 1 << 63 })
			put("N of 0", i, j, func(_ *api.Channel, h *api.Hold) { h.N = 0 })
			put("Id one more", i, j, func(_ *api.Channel, h *api.Hold) { h.Id++ })
			put("Id by much", i, j, func(_ *api.Channel, h *api.Hold) { h.Id ^= 1 << 63 })
			put("the channel's Id", i, j, func(c *api.Channel, _ *api.Hold) { c.Id = 777 })
			put("twice in one", i, j, func(c *api.Channel, h *api.Hold) { c.Holds = append(c.Holds, *h) })
			put("twice in one, one of N 0", i, j, func(c *api.Channel, h *api.Hold) { c.Holds = append(c.Holds, hold(h.Id, 0)) })
			put("gone", i, j, func(c *api.Channel, _ *api.Hold) { c.Holds = slices.Delete(c.Holds, j, j+1) })
			put("Id and N", i, j, func(_ *api.Channel, h *api.Hold) { h.Id, h.N = h.N+1000, h.Id })
			m[fmt.Sprintf("in one more channel, of %d, %d", i, j)] = append(copyOf(cs), with(888, h))
			m[fmt.Sprintf("in one channel ahead, of %d, %d", i, j)] = slices.Concat(channels(with(888, h)), copyOf(cs))
			for k := range cs {
				if k != i {
					both := copyOf(cs)
					both[k].Holds = append(both[k].Holds, h)
					m[fmt.Sprintf("in two channels, of %d, %d and %d", i, j, k)] = both
					moved := copyOf(both)
					moved[i].Holds = slices.Delete(moved[i].Holds, j, j+1)
					m[fmt.Sprintf("in another channel, of %d, %d and %d", i, j, k)] = moved
				}
			}
		}
		for _, p := range l {
			if p.State != isPending {
				ended := copyOf(cs)
				ended[i].Holds = append(ended[i].Holds, hold(p.Id, p.N))
				m[fmt.Sprintf("%d, which ended, at %d", p.Id, i)] = ended
			}
		}
		for _, h := range []api.Hold{{}, hold(7777, 1), hold(greatest-5, most), hold(7777, 0)} {
			more := copyOf(cs)
			more[i].Holds = append([]api.Hold{h}, more[i].Holds...)
			m[fmt.Sprintf("%v, of no payment, at %d", h, i)] = more
		}
	}
	return m
}

// P13.3: whatever is changed at a hold, or in which channel it is, there and elsewhere.
func TestAgreeNoMore(t *testing.T) {
	for _, l := range [][]api.Payment{some(), many(3), many(12), begun(9), row(due(0, 0, 1), done(1, 0, 1)), row(done(0, 0, 1), due(1, 1, 1))} {
		cs := holders(l)
		wantAgree(t, l, cs, true, api.OK)
		for name, changed := range parted(l, cs) {
			if is, e := Agree(l, changed); is || e != api.OK {
				t.Errorf("%s: Agree(%v, %v) = %v, %d", name, l, changed, is, e)
			}
		}
	}
}

// P13.3: whatever is changed at a payment.
func TestAgreeOtherPayments(t *testing.T) {
	for _, l := range [][]api.Payment{some(), many(30), begun(full), many(full)} {
		cs := holders(l)
		for i, p := range l {
			changed := slices.Clone(l)
			for name, q := range map[string]api.Payment{
				"N":     one(p.Id, p.Chan, p.N%most+1, p.State),
				"Chan":  one(p.Id, p.Chan+1, p.N, p.State),
				"State": one(p.Id, p.Chan, p.N, p.State%3+1),
				"Hash":  {Id: p.Id, Hash: 5, Chan: p.Chan, N: p.N, State: p.State},
			} {
				changed[i] = q
				// What ended has no hold, however much and by whichever channel it was.
				want := p.State != isPending && q.State != isPending || name == "Hash"
				wantAgree(t, changed, cs, want, api.OK)
			}
			wantAgree(t, slices.Delete(slices.Clone(l), i, i+1), cs, p.State != isPending, api.OK)
		}
	}
}

// P13.3: whatever else the channels are, in which order they and their holds are, and that those without holds are there, changes nothing.
func TestAgreeWhateverElse(t *testing.T) {
	r := rand.New(rand.NewSource(31))
	odd := []uint64{0, 1, most, most + 1, greatest}
	for _, l := range [][]api.Payment{nil, some(), many(20), begun(full), many(full)} {
		for range 60 {
			cs := append(holders(l), empty(r.Intn(25))...)
			for i := range cs {
				pick := func() uint64 { return odd[r.Intn(len(odd))] }
				cs[i].Local, cs[i].Remote, cs[i].Reserve, cs[i].Most, cs[i].Open = pick(), pick(), pick(), pick(), r.Intn(2) == 0
				r.Shuffle(len(cs[i].Holds), func(j, k int) { cs[i].Holds[j], cs[i].Holds[k] = cs[i].Holds[k], cs[i].Holds[j] })
			}
			r.Shuffle(len(cs), func(j, k int) { cs[j], cs[k] = cs[k], cs[j] })
			wantAgree(t, l, cs, true, api.OK)
		}
	}
}

// P13.3: one channel with all holds of full payments, more than MaxHolds of them, and MaxChannels with eight each.
func TestAgreeFull(t *testing.T) {
	for _, of := range []int{1, 2, 5, fullChannels} {
		l := begun(full)
		for i := range l {
			l[i].Chan = uint64(i % of)
		}
		cs := holders(l)
		wantAgree(t, l, cs, true, api.OK)
		for i, p := range l {
			ended := slices.Clone(l)
			ended[i].State = isFailed
			wantAgree(t, ended, cs, false, api.OK)
			less := copyOf(cs)
			c := &less[p.Chan]
			c.Holds = slices.DeleteFunc(c.Holds, func(h api.Hold) bool { return h.Id == p.Id })
			wantAgree(t, l, less, false, api.OK)
			wantAgree(t, ended, less, true, api.OK)
		}
	}
}

// P13.3: how many channels there may be.
func TestAgreeHowMany(t *testing.T) {
	for n := range 3 * fullChannels {
		want, e := true, api.OK
		if n > fullChannels {
			want, e = false, api.ErrArg
		}
		wantAgree(t, nil, empty(n), want, e)
		wantAgree(t, row(done(1, 1, 1)), empty(n), want, e)
		if n > 0 {
			l := row(due(1, 100, 1))
			cs := empty(n)
			cs[0].Holds = []api.Hold{hold(1, 1)}
			wantAgree(t, l, cs, want, e)
			wantAgree(t, l, empty(n), false, e)
		}
	}
}

// P13.3: two channels of one Id, at each pair of places, with and without holds; ErrArg is told ahead of no.
func TestAgreeOneIdTwice(t *testing.T) {
	l := row(due(1, 100, 1), due(2, 105, 2))
	for _, n := range []int{2, 3, fullChannels} {
		for i := range n {
			for j := range i {
				cs := empty(n)
				cs[0].Holds, cs[1].Holds = []api.Hold{hold(1, 1)}, []api.Hold{hold(2, 2)}
				wantAgree(t, l, cs, true, api.OK)
				cs[i].Id = cs[j].Id
				wantAgree(t, l, cs, false, api.ErrArg)
				wantAgree(t, nil, cs, false, api.ErrArg)
				cs[0].Holds, cs[1].Holds = nil, nil
				wantAgree(t, l, cs, false, api.ErrArg)
				wantAgree(t, nil, cs, false, api.ErrArg)
				cs[i].Id, cs[j].Id = 0, 0
				wantAgree(t, nil, cs, false, api.ErrArg)
				cs[i].Id, cs[j].Id = greatest, greatest
				wantAgree(t, nil, cs, false, api.ErrArg)
				cs[i].Id = greatest - 1
				wantAgree(t, nil, cs, true, api.OK)
			}
		}
	}
	// Otherwise they differ, or are the same in all parts.
	wantAgree(t, nil, channels(api.Channel{Id: 1, Local: 5, Open: true}, api.Channel{Id: 1, Remote: 7}), false, api.ErrArg)
	wantAgree(t, l, channels(with(100, hold(1, 1)), with(105, hold(2, 2)), with(100)), false, api.ErrArg)
	wantAgree(t, row(due(1, 1, 1), due(2, 1, 2)), channels(with(1, hold(1, 1)), with(1, hold(2, 2))), false, api.ErrArg)
}

// P13.3: all rows of up to two small payments with all of up to two small channels of up to two holds.
func TestAgreeAllSmall(t *testing.T) {
	var few [2][]api.Payment
	for id := range few {
		for by := range uint64(2) {
			for n := range uint64(2) {
				few[id] = append(few[id], due(uint64(id), by, n+1), done(uint64(id), by, n+1))
			}
		}
	}
	rows := [][]api.Payment{nil}
	for _, p := range few[0] {
		rows = append(rows, row(p))
		for _, q := range few[1] {
			rows = append(rows, row(p, q))
		}
	}
	for _, q := range few[1] {
		rows = append(rows, row(q))
	}
	held := [][]api.Hold{nil}
	for i := range uint64(6) {
		held = append(held, []api.Hold{hold(i/3, i%3)})
		for j := range uint64(6) {
			held = append(held, []api.Hold{hold(i/3, i%3), hold(j/3, j%3)})
		}
	}
	all := [][]api.Channel{nil}
	for i := range 2 * len(held) {
		first := with(uint64(i%2), held[i/2]...)
		all = append(all, channels(first))
		for j := range 2 * len(held) {
			all = append(all, channels(first, with(uint64(j%2), held[j/2]...)))
		}
	}
	agreed := 0
	for _, l := range rows {
		for _, cs := range all {
			want, e := agreeBy(l, cs)
			wantAgree(t, l, cs, want, e)
			if want {
				agreed++
			}
		}
	}
	if agreed < 300 {
		t.Errorf("only %d agreed", agreed)
	}
}

// P13.1 to P13.3: each call, of what the payments have and what is beside it.
func TestByTheWords(t *testing.T) {
	rows := [][]api.Payment{nil, {}, some(), many(1), many(2), many(7)}
	for _, name := range []string{"Ids fall", "one Id twice", "one Id twice, apart", "all zero", "N of 0, ahead", "N one above, between", "State 4, behind", "State -1", "one too many"} {
		rows = append(rows, wrong()[name])
	}
	for _, l := range append(rows, many(full-1), many(full), begun(full)) {
		holdAll(t, l, closely(l))
	}
}

// P13.1 to P13.3: all rows of up to three of few small payments, those that may not be among them.
func TestAllSmallRows(t *testing.T) {
	var few []api.Payment
	for _, id := range []uint64{0, 1, greatest} {
		few = append(few, due(id, 0, 1), due(id, 1, 2), done(id, 1, 1), failed(id, 0, 2))
	}
	few = append(few, due(1, 1, 0), one(1, 1, 1, 4))
	asked := askedOf{[]uint64{0, 1, 2, greatest}, []uint64{0, 1, 2}, []uint64{0, 1, 2}}
	rows := [][]api.Payment{nil}
	for range 3 {
		var longer [][]api.Payment
		for _, l := range rows {
			holdAll(t, l, asked)
			for _, p := range few {
				longer = append(longer, append(slices.Clone(l), p))
			}
		}
		rows = longer
	}
	for _, l := range rows {
		holdAll(t, l, asked)
	}
}

// P13.1 to P13.3: payments that may not be are told ahead of all else, also where the one that is asked for stands at a right place.
func TestWrongPayments(t *testing.T) {
	for name, l := range wrong() {
		stays := slices.Clone(l)
		for _, id := range []uint64{l[0].Id, l[len(l)/2].Id, l[len(l)-1].Id, 0, 77777, greatest} {
			wantGet(t, l, id, api.Payment{}, api.ErrArg)
			wantEnd(t, l, id, true, nil, api.ErrArg)
			wantEnd(t, l, id, false, nil, api.ErrArg)
			wantHeld(t, l, id, 0, api.ErrArg)
			for _, n := range []uint64{0, 1, most, most + 1} {
				wantStart(t, l, due(id, 1, n), nil, api.ErrArg)
				wantStart(t, l, done(id, 1, n), nil, api.ErrArg)
			}
		}
		for _, by := range []uint64{1, 3, 5} {
			wantHeld(t, l, by, 0, api.ErrArg)
		}
		for _, cs := range [][]api.Channel{nil, holders(l), empty(fullChannels), empty(fullChannels + 1), channels(with(1), with(1))} {
			wantAgree(t, l, cs, false, api.ErrArg)
		}
		if !equal(l, stays) {
			t.Errorf("%s: what was handed in changed: %v; want %v", name, l, stays)
		}
	}
}

// step is one thing that is done with payments: one begins, or it ends.
type step struct {
	name      string
	id, by, n uint64
}

func (s step) do(l []api.Payment) ([]api.Payment, api.Errno) {
	if s.name == "start" {
		return Start(l, due(s.id, s.by, s.n))
	}
	return End(l, s.id, s.name == "pay")
}

// want is what the chapter's words tell of a step.
func (s step) want(l []api.Payment) ([]api.Payment, api.Errno) {
	if s.name == "start" {
		return startBy(l, due(s.id, s.by, s.n))
	}
	return endBy(l, s.id, s.name == "pay")
}

// steps are what may be done with payments of those Ids.
func steps(ids ...uint64) []step {
	var l []step
	for _, id := range ids {
		l = append(l, step{"start", id, id % 2, 3}, step{"pay", id, 0, 0}, step{"fail", id, 0, 0})
	}
	return l
}

// wantStep holds a step against the chapter's words, and what follows: a payment ends once, what is pending is never forgotten, and nothing else changes, but that one that ended may be left out.
func wantStep(t *testing.T, s step, ahead, after []api.Payment, e api.Errno) {
	t.Helper()
	want, wantE := s.want(ahead)
	if !equal(after, want) || e != wantE {
		t.Errorf("%v of %v = %v, %d; want %v, %d", s, ahead, after, e, want, wantE)
	}
	if e != api.OK {
		return
	}
	if Check(after) != api.OK {
		t.Errorf("%v of %v: %v may not be", s, ahead, after)
	}
	out := 0
	for _, p := range ahead {
		is, there := find(after, p.Id)
		if !there {
			out++
		}
		stays := there && is == p
		switch {
		case s.name != "start" && p.Id == s.id:
			stays = there && p.State == isPending && is.State != isPending && is == one(p.Id, p.Chan, p.N, is.State)
		case s.name == "start" && p.State != isPending && len(ahead) == full:
			stays = stays || !there
		}
		if !stays {
			t.Errorf("%v of %v: %v; of Id %d there is %v, %v", s, ahead, after, p.Id, is, there)
		}
	}
	if out > 1 || len(ahead)+count(s)-out != len(after) {
		t.Errorf("%v of %v: %v; %d were left out", s, ahead, after, out)
	}
}

// count is how many more payments there are by a step, if none is left out.
func count(s step) int {
	if s.name == "start" {
		return 1
	}
	return 0
}

// P13.4: all ways of few payments till each of them ended, and of at most four steps where there are as many as may be.
func TestWhatFollows(t *testing.T) {
	nearly := begun(full - 2)
	for i := range nearly {
		nearly[i].Id += 100
	}
	nearly[7].State, nearly[90].State = isFailed, isDone
	for _, x := range []struct {
		l     []api.Payment
		steps []step
		far   int
	}{
		{nil, steps(4, 6, 7), 6}, {row(due(4, 0, 3), done(7, 1, 3)), steps(4, 6, 7), 3},
		{nearly, steps(4, 5, 3000, greatest), 4},
	} {
		rows := [][]api.Payment{x.l}
		for range x.far {
			var later [][]api.Payment
			for _, l := range rows {
				for _, s := range x.steps {
					after, e := s.do(l)
					wantStep(t, s, l, after, e)
					if e == api.OK {
						later = append(later, after)
					}
				}
			}
			rows = later
		}
		if len(rows) < 12 {
			t.Errorf("of %d payments only %d ways went on", len(x.l), len(rows))
		}
	}
}

// P13.3, P13.4: long ways; channels that hold what begins, till it ends, agree all the time, and what is held is what is pending.
func TestLongWays(t *testing.T) {
	for seed := range int64(6) {
		r := rand.New(rand.NewSource(seed))
		number := func(n int) uint64 { return uint64(r.Intn(n)) }
		var l []api.Payment
		cs := make([]api.Channel, 6)
		for i := range cs {
			cs[i].Id = uint64(i)
		}
		done := map[string]int{}
		// More begins than ends, so that in the end there are as many as may be, all pending.
		names := slices.Concat(slices.Repeat([]string{"start"}, 6+2*int(seed)), []string{"pay", "fail", "pay", "fail"})
		for i := range 2000 {
			s := step{names[r.Intn(len(names))], number(600), number(len(cs)), number(12)}
			after, e := s.do(l)
			wantStep(t, s, l, after, e)
			done[fmt.Sprintf("%s %d", s.name, e)]++
			if e != api.OK {
				continue
			}
			by := s.by
			if p, there := find(l, s.id); there {
				by = p.Chan
			}
			c := &cs[by]
			if s.name == "start" {
				c.Holds = append(c.Holds, hold(s.id, s.n))
			} else {
				c.Holds = slices.DeleteFunc(c.Holds, func(h api.Hold) bool { return h.Id == s.id })
			}
			wantAgree(t, l, cs, false, api.OK)
			l = after
			wantAgree(t, l, cs, true, api.OK)
			all := uint64(0)
			for _, h := range c.Holds {
				all += h.N
			}
			wantHeld(t, l, by, all, api.OK)
			if i%100 == 0 {
				holdAll(t, l, closely(l))
			}
		}
		if len(done) < 8 || done["start 0"] < 300 || seed > 3 && done["start 7"] == 0 {
			t.Errorf("%d: only %v was done", seed, done)
		}
	}
}

// P13.4: what ended is neither ended again, nor begun anew, as long as it is not left out.
func TestEndsOnce(t *testing.T) {
	for i, p := range begun(full) {
		for _, paid := range []bool{false, true} {
			l, e := End(begun(full), p.Id, paid)
			state := map[bool]int{false: isFailed, true: isDone}[paid]
			if e != api.OK || l[i].State != state {
				t.Fatalf("%v: %v, %d", p, l, e)
			}
			wantEnd(t, l, p.Id, paid, nil, api.ErrState)
			wantEnd(t, l, p.Id, !paid, nil, api.ErrState)
			wantStart(t, l, p, nil, api.ErrThere)
			wantGet(t, l, p.Id, one(p.Id, p.Chan, p.N, state), api.OK)
			// Another one begins, and it is left out, and all others are there.
			next, e := Start(l, due(1, 1, 1))
			if e != api.OK {
				t.Fatalf("Start(%v) = %d", l, e)
			}
			wantEnd(t, next, p.Id, paid, nil, api.ErrNone)
			wantGet(t, next, p.Id, api.Payment{}, api.ErrNone)
			wantStart(t, next, p, nil, api.ErrFull)
			for _, q := range begun(full) {
				if q.Id != p.Id {
					wantGet(t, next, q.Id, q, api.OK)
				}
			}
		}
	}
}

// The chapter's example: a payment that ended can't end again.
func TestExample(t *testing.T) {
	l, e := Start(nil, due(7, 1, 10))
	if !equal(l, row(due(7, 1, 10))) || e != api.OK {
		t.Fatalf("Start = %v, %d", l, e)
	}
	l, e = End(l, 7, true)
	if !equal(l, row(done(7, 1, 10))) || e != api.OK {
		t.Fatalf("End = %v, %d", l, e)
	}
	wantEnd(t, l, 7, true, nil, api.ErrState)
	wantEnd(t, l, 7, false, nil, api.ErrState)
}

// calls are those that answer payments, where each is right of some().
func calls() map[string]func(l []api.Payment) []api.Payment {
	first := func(l []api.Payment, _ api.Errno) []api.Payment { return l }
	return map[string]func(l []api.Payment) []api.Payment{
		"Start at the front":  func(l []api.Payment) []api.Payment { return first(Start(l[1:], due(1, 1, 1))) },
		"Start in the middle": func(l []api.Payment) []api.Payment { return first(Start(l, due(7, 1, 1))) },
		"Start at the end":    func(l []api.Payment) []api.Payment { return first(Start(l[:4], due(10, 1, 1))) },
		"pay the first":       func(l []api.Payment) []api.Payment { return first(End(l, 0, true)) },
		"pay the last":        func(l []api.Payment) []api.Payment { return first(End(l, greatest, true)) },
		"fail in the middle":  func(l []api.Payment) []api.Payment { return first(End(l, 20, false)) },
		"fail the last":       func(l []api.Payment) []api.Payment { return first(End(l, greatest, false)) },
	}
}

// wantNew holds a call against R2: what is told is new, and what is handed in stays as it was, also behind its end.
func wantNew(t *testing.T, name string, handed []api.Payment, call func(l []api.Payment) []api.Payment) {
	t.Helper()
	room := append(slices.Concat(row(due(77, 77, 77)), handed), due(88, 88, 88), due(89, 89, 89), due(90, 90, 90))
	kept := slices.Clone(room)
	l := room[1 : len(handed)+1]
	told, again := call(l), call(l)
	want := slices.Clone(told)
	if len(told) == 0 || !equal(told, again) {
		t.Fatalf("%s: %v, and then %v", name, told, again)
	}
	if !equal(room, kept) {
		t.Errorf("%s changed what it was handed: %v; want %v", name, room, kept)
	}
	wipe(room)
	if !equal(told, want) {
		t.Errorf("%s: what was told hangs on what was handed in: %v", name, told)
	}
	copy(room, kept)
	wipe(told)
	if !equal(again, want) || !equal(room, kept) {
		t.Errorf("%s: what was told shares memory: %v, %v", name, again, room)
	}
}

// R2
func TestToldIsNew(t *testing.T) {
	for name, call := range calls() {
		wantNew(t, name, some(), call)
	}
	for _, id := range []uint64{0, 4, 400, greatest} {
		wantNew(t, "one is left out", many(full), func(l []api.Payment) []api.Payment {
			told, _ := Start(l, due(id, 1, 1))
			return told
		})
	}
}

// R2: the other calls, and those that tell an error, change nothing.
func TestHandedInStays(t *testing.T) {
	rows := right()
	for _, l := range wrong() {
		rows = append(rows, l)
	}
	for _, kept := range rows {
		room := append(slices.Clone(kept), due(88, 88, 88), due(89, 89, 89))
		l := room[:len(kept)]
		Check(l)
		Same(l, kept)
		for _, id := range []uint64{0, 1, 2, 3, 5, 7, 9, 20, greatest} {
			Get(l, id)
			Held(l, id)
			End(l, id, true)
			End(l, id, false)
			for _, n := range []uint64{0, 1, most, most + 1} {
				Start(l, due(id, 1, n))
				Start(l, done(id, 1, n))
			}
		}
		cs := holders(l)
		wide := channels(with(5, hold(1, 1)), with(3, hold(0, 10), hold(greatest, 1)), with(5))
		for _, c := range [][]api.Channel{nil, cs, wide, wide[1:], empty(fullChannels + 1)} {
			stays := copyOf(c)
			Agree(l, c)
			if !equalChannels(c, stays) {
				t.Errorf("what was handed in changed: %v; want %v", c, stays)
			}
		}
		if !equal(l, kept) || !equal(room[len(kept):], row(due(88, 88, 88), due(89, 89, 89))) {
			t.Errorf("what was handed in changed: %v; want %v", room, kept)
		}
	}
}

// FuzzPayment holds all calls against the chapter's words; each payment is made of four octets, and each hold of three.
func FuzzPayment(f *testing.F) {
	f.Add([]byte{2, 1, 5, 1, 5, 1, 1, 1, 9, 2, 1, 2}, []byte{1, 2, 5, 1, 5, 1}, uint64(5), uint64(50))
	f.Add([]byte{2, 1, 5, 1, 2, 2, 5, 3}, []byte{1, 2, 5}, uint64(2), uint64(1<<62))
	f.Add([]byte{1, 0, 0, 1, 2, 20, 1, 4}, []byte{0, 0, 0}, uint64(3), uint64(4))
	f.Fuzz(func(t *testing.T, b, held []byte, id, n uint64) {
		var l []api.Payment
		for ; len(b) >= 4; b = b[4:] {
			l = append(l, one(uint64(b[0]), uint64(b[1]), uint64(b[2]), int(b[3])%5))
		}
		holdAll(t, l, askedOf{[]uint64{id, id % 256, id % 8}, []uint64{n, n % 256, n % 8}, []uint64{id % 256, n % 8}})
		var cs []api.Channel
		for ; len(held) >= 3; held = held[3:] {
			by, h := uint64(held[0]%64), hold(uint64(held[1]), uint64(held[2]))
			i := slices.IndexFunc(cs, func(c api.Channel) bool { return c.Id == by })
			if i < 0 || held[0] >= 250 {
				cs = append(cs, with(by, h))
			} else {
				cs[i].Holds = append(cs[i].Holds, h)
			}
		}
		want, e := agreeBy(l, cs)
		wantAgree(t, l, cs, want, e)
	})
}
