package channel

import (
	"fmt"
	"math"
	"math/rand"
	"slices"
	"testing"

	"damson/api"
)

// full, most and the greatest number are written out, so that the tests do not lean on what they hold the program against.
const (
	full     = 64
	most     = 1 << 62
	greatest = math.MaxUint64
)

func hold(id, n uint64) api.Hold { return api.Hold{Id: id, N: n} }

// open is a channel of number 1 that is open.
func open(local, remote, reserve, atMost uint64, holds ...api.Hold) api.Channel {
	return api.Channel{Id: 1, Local: local, Remote: remote, Reserve: reserve, Most: atMost, Holds: holds, Open: true}
}

// closed is one that is not.
func closed(local, remote, reserve, atMost uint64, holds ...api.Hold) api.Channel {
	c := open(local, remote, reserve, atMost, holds...)
	c.Open = false
	return c
}

// ones are n holds of 1, of every third number from 3 on.
func ones(n int) []api.Hold {
	l := make([]api.Hold, n)
	for i := range l {
		l[i] = hold(uint64(3*i+3), 1)
	}
	return l
}

// parts are n holds, of every third number from 3 on, that are together all.
func parts(n int, all uint64) []api.Hold {
	l := make([]api.Hold, n)
	for i := range l {
		l[i] = hold(uint64(3*i+3), all/uint64(n))
	}
	l[n-1].N += all % uint64(n)
	return l
}

// copyOf is the channel with holds of its own.
func copyOf(c api.Channel) api.Channel {
	c.Holds = append([]api.Hold(nil), c.Holds...)
	return c
}

// some is a channel with three holds, 10 of room by Most, and 90 by Local.
func some() api.Channel {
	return open(100, 50, 10, 70, hold(0, 10), hold(5, 20), hold(greatest, 30))
}

// right are channels that may be.
func right() []api.Channel {
	l := []api.Channel{
		{}, {Open: true}, {Id: greatest}, {Id: greatest, Open: true}, {Holds: []api.Hold{}}, {Holds: []api.Hold{}, Open: true},
		some(), closed(100, 50, 10, 70),
		open(most, 0, 0, 0), open(0, most, 0, 0), open(0, 0, most, 0), open(0, 0, 0, most), open(most, 0, most, most), open(0, most, most, most),
		closed(most, 0, 0, 0), closed(0, most, 0, 0), closed(0, 0, most, 0), closed(0, 0, 0, most), closed(most, 0, most, most), closed(0, most, most, most),
		open(most-1, 1, 5, 5), open(1, most-1, 5, 5), open(most/2, most/2, 0, most), closed(most-1, 1, 5, 5), closed(1, most-1, 5, 5),
		// Local below Reserve, at it, and one above it.
		open(9, 0, 10, 50), open(10, 0, 10, 50), open(11, 0, 10, 50), open(0, 0, 1, 1),
		open(9, 0, 10, 50, hold(1, 5)), open(10, 0, 10, 50, hold(1, 5)), open(11, 0, 10, 50, hold(1, 5)),
		// All together just at what may be, in each of its ways.
		open(0, 0, 0, most, hold(1, most)), open(most-1, 0, 0, most, hold(1, 1)), open(0, most-1, 0, most, hold(1, 1)), open(1, most-2, 0, 1, hold(1, 1)),
		open(1, 1, most, most, hold(1, most-2)), open(0, 0, most, most, parts(full, most)...), open(1, 1, 0, most-2, parts(full, most-2)...),
		// All holds just at Most, and one below it.
		open(0, 0, 0, 1, hold(1, 1)), open(0, 0, 0, 2, hold(1, 1)), open(5, 5, 5, 30, hold(1, 10), hold(2, 20)), open(5, 5, 5, 31, hold(1, 10), hold(2, 20)),
		open(0, 0, 0, full, ones(full)...), open(0, 0, 0, full+1, ones(full)...),
		// Numbers of holds at both edges, and where signs would change.
		open(0, 0, 0, 9, hold(0, 1)), open(0, 0, 0, 9, hold(greatest, 1)), open(0, 0, 0, 9, hold(0, 1), hold(greatest, 1)),
		open(0, 0, 0, 9, hold(1<<63-1, 1), hold(1<<63, 1), hold(1<<63+1, 1)), open(0, 0, 0, 9, hold(1, 2), hold(2, 1)),
	}
	for n := range full + 1 {
		l = append(l, open(200, 100, 30, 100, ones(n)...))
	}
	return l
}

// wrongAmounts are channels that may not be for an amount, or for some together.
func wrongAmounts() map[string]api.Channel {
	m := map[string]api.Channel{}
	for _, n := range []uint64{most + 1, most + 2, 1 << 63, 1<<63 + most, greatest - 1, greatest} {
		for _, is := range []bool{true, false} {
			m[fmt.Sprint("Local ", n, is)] = api.Channel{Local: n, Open: is}
			m[fmt.Sprint("Remote ", n, is)] = api.Channel{Remote: n, Open: is}
			m[fmt.Sprint("Reserve ", n, is)] = api.Channel{Reserve: n, Open: is}
			m[fmt.Sprint("Most ", n, is)] = api.Channel{Most: n, Open: is}
			m[fmt.Sprint("Local, beside Most and Reserve ", n, is)] = api.Channel{Local: n, Reserve: most, Most: most, Open: is}
			m[fmt.Sprint("Local, where the sum goes around ", n, is)] = api.Channel{Local: n, Remote: -n, Open: is}
		}
		m[fmt.Sprint("a hold ", n)] = open(0, 0, 0, most, hold(1, n))
		m[fmt.Sprint("a hold, and Most ", n)] = open(0, 0, 0, n, hold(1, n))
		m[fmt.Sprint("the second hold ", n)] = open(0, 0, 0, most, hold(1, 1), hold(2, n))
		m[fmt.Sprint("the last of MaxHolds ", n)] = open(0, 0, 0, most, append(ones(full-1), hold(greatest, n))...)
		m[fmt.Sprint("two holds that go around ", n)] = open(0, 0, 0, most, hold(1, n), hold(2, -n))
		m[fmt.Sprint("a hold that goes around with Local ", n)] = open(-n, 0, 0, most, hold(1, n))
	}
	for name, c := range map[string]api.Channel{
		"Local and Remote":                open(most, 1, 0, 0),
		"Remote and Local":                open(1, most, 0, 0),
		"both most":                       open(most, most, 0, 0),
		"both half, and one more":         open(most/2, most/2+1, 0, 0),
		"not open, Local and Remote":      closed(most, 1, 0, 0),
		"not open, both most":             closed(most, most, 0, 0),
		"Local and a hold":                open(most, 0, 0, most, hold(1, 1)),
		"Remote and a hold":               open(0, most, 0, most, hold(1, 1)),
		"one of each too many":            open(1, most-1, 0, most, hold(1, 1)),
		"a hold most, and Local":          open(1, 0, 0, most, hold(1, most)),
		"a hold most, and Remote":         open(0, 1, 0, most, hold(1, most)),
		"two holds":                       open(0, 0, 0, most, hold(1, most), hold(2, 1)),
		"MaxHolds holds, one too many":    open(1, 0, 0, most, parts(full, most)...),
		"MaxHolds holds, above most":      open(0, 0, 0, most, parts(full, most+1)...),
		"three thirds":                    open(most/3+1, most/3+1, 0, most, hold(1, most/3+1)),
		"four of most are 0":              open(most, most, 0, most, hold(1, most), hold(2, most)),
		"four of most, beyond":            open(most, most, 0, most, hold(1, most), hold(2, most), hold(3, 5)),
		"four holds of most are 0":        open(0, 0, 0, most, hold(1, most), hold(2, most), hold(3, most), hold(4, most)),
		"four holds of most, and 1":       open(0, 0, 0, most, hold(1, most), hold(2, most), hold(3, most), hold(4, most), hold(5, 1)),
		"eight holds of most are 0":       open(5, 5, 5, 50, hold(1, most), hold(2, most), hold(3, most), hold(4, most), hold(5, most), hold(6, most), hold(7, most), hold(8, most)),
		"MaxHolds of most are 0":          open(0, 0, 0, most, allOf(full, most)...),
		"MaxHolds of an eighth, around":   open(0, 0, 0, most, allOf(full, most/8)...),
		"Local goes around with holds":    open(most, 0, 0, most, hold(1, most), hold(2, most), hold(3, most)),
		"Remote goes around with holds":   open(0, most, 0, most, hold(1, most), hold(2, most), hold(3, most)),
		"Reserve and Most, Local at most": open(most, 0, most+1, most+1),
	} {
		m[name] = c
	}
	return m
}

// allOf are holds of the same N each.
func allOf(n int, each uint64) []api.Hold {
	l := ones(n)
	for i := range l {
		l[i].N = each
	}
	return l
}

// wrongHolds are channels that may not be for their holds.
func wrongHolds() map[string]api.Channel {
	m := map[string]api.Channel{
		"Ids fall":                     open(0, 0, 0, 99, hold(2, 1), hold(1, 1)),
		"Ids fall to 0":                open(0, 0, 0, 99, hold(greatest, 1), hold(0, 1)),
		"Ids fall, beyond 63 bits":     open(0, 0, 0, 99, hold(1<<63, 1), hold(1<<63-1, 1)),
		"Ids fall at the end":          open(0, 0, 0, 99, hold(1, 1), hold(2, 1), hold(4, 1), hold(3, 1)),
		"one Id twice":                 open(0, 0, 0, 99, hold(2, 1), hold(2, 1)),
		"one Id twice, another N":      open(0, 0, 0, 99, hold(2, 1), hold(2, 2)),
		"Id 0 twice":                   open(0, 0, 0, 99, hold(0, 1), hold(0, 1)),
		"the greatest Id twice":        open(0, 0, 0, 99, hold(greatest, 1), hold(greatest, 1)),
		"one Id twice, apart":          open(0, 0, 0, 99, hold(2, 1), hold(3, 1), hold(2, 1)),
		"a hold of nothing":            open(0, 0, 0, 99, hold(1, 0)),
		"a hold of nothing, Most 0":    open(0, 0, 0, 0, hold(1, 0)),
		"all zero":                     open(0, 0, 0, 0, hold(0, 0)),
		"more than Most":               open(0, 0, 0, 0, hold(1, 1)),
		"two that are more than Most":  open(0, 0, 0, 29, hold(1, 10), hold(2, 20)),
		"more than Most, much":         open(0, 0, 0, 1, hold(1, most)),
		"more than Most by the last":   open(0, 0, 0, full-1, ones(full)...),
		"not open, with a hold":        closed(0, 0, 0, 99, hold(1, 1)),
		"not open, with MaxHolds":      closed(0, 0, 0, 99, ones(full)...),
		"not open, a hold of nothing":  closed(0, 0, 0, 99, hold(1, 0)),
		"one too many":                 open(0, 0, 0, 999, ones(full+1)...),
		"two too many":                 open(0, 0, 0, 999, ones(full+2)...),
		"much too many":                open(0, 0, 0, most, ones(900)...),
		"one too many, and not open":   closed(0, 0, 0, 999, ones(full+1)...),
		"one too many, all of nothing": open(0, 0, 0, 999, make([]api.Hold, full+1)...),
	}
	for _, n := range []int{2, 3, 5, full} {
		for i := range n {
			change := func(name string, do func(l []api.Hold)) {
				l := ones(n)
				do(l)
				m[fmt.Sprintf("%s of %d at %d", name, n, i)] = open(100, 50, 10, 99, l...)
			}
			change("nothing", func(l []api.Hold) { l[i].N = 0 })
			change("more than Most", func(l []api.Hold) { l[i].N = 101 - uint64(n) })
			change("above MaxMoney", func(l []api.Hold) { l[i].N = most + 1 })
			change("an Id twice", func(l []api.Hold) { l[i].Id = l[(i+1)%n].Id })
			change("two changed about", func(l []api.Hold) { l[i].Id, l[(i+1)%n].Id = l[(i+1)%n].Id, l[i].Id })
		}
	}
	return m
}

// wrong are channels that may not be.
func wrong() map[string]api.Channel {
	m := wrongAmounts()
	for name, c := range wrongHolds() {
		m[name] = c
	}
	return m
}

// sumOf is the sum, or the greatest number where the sum is beyond it.
func sumOf(l ...uint64) uint64 {
	var sum uint64
	for _, n := range l {
		if n > greatest-sum {
			return greatest
		}
		sum += n
	}
	return sum
}

func heldBy(c api.Channel) uint64 {
	var l []uint64
	for _, h := range c.Holds {
		l = append(l, h.N)
	}
	return sumOf(l...)
}

// mayBe tells, in the chapter's words, whether a channel may be.
func mayBe(c api.Channel) bool {
	if len(c.Holds) > full || len(c.Holds) > 0 && !c.Open {
		return false
	}
	for i, h := range c.Holds {
		if h.N < 1 || h.N > most {
			return false
		}
		for _, behind := range c.Holds[i+1:] {
			if behind.Id <= h.Id {
				return false
			}
		}
	}
	for _, n := range []uint64{c.Local, c.Remote, c.Reserve, c.Most, sumOf(c.Local, c.Remote, heldBy(c))} {
		if n > most {
			return false
		}
	}
	return heldBy(c) <= c.Most
}

// find is the hold of that number; holds are gone through one by one.
func find(c api.Channel, id uint64) (api.Hold, bool) {
	for _, h := range c.Holds {
		if h.Id == id {
			return h, true
		}
	}
	return api.Hold{}, false
}

// amountBy, roomBy, holdBy, endBy, pushBy and closeBy are what the chapter's words tell.
func amountBy(c api.Channel, n uint64) (uint64, api.Errno) {
	if !mayBe(c) {
		return 0, api.ErrArg
	}
	return n, api.OK
}

func roomBy(c api.Channel) (uint64, api.Errno) {
	if !c.Open || len(c.Holds) >= full || c.Local < c.Reserve {
		return amountBy(c, 0)
	}
	byLocal, byMost := c.Local-c.Reserve, c.Most-heldBy(c)
	if byLocal < byMost {
		return amountBy(c, byLocal)
	}
	return amountBy(c, byMost)
}

func holdBy(c api.Channel, id, n uint64) (api.Channel, api.Errno) {
	if !mayBe(c) || n == 0 || n > most {
		return api.Channel{}, api.ErrArg
	}
	if !c.Open {
		return api.Channel{}, api.ErrClosed
	}
	if _, there := find(c, id); there {
		return api.Channel{}, api.ErrThere
	}
	if len(c.Holds) >= full {
		return api.Channel{}, api.ErrFull
	}
	// Both sides are below 2^63, and so are these sums.
	if c.Reserve+n > c.Local {
		return api.Channel{}, api.ErrPoor
	}
	if heldBy(c)+n > c.Most {
		return api.Channel{}, api.ErrOver
	}
	told := copyOf(c)
	told.Local -= n
	told.Holds = append(told.Holds, hold(id, n))
	slices.SortFunc(told.Holds, func(a, b api.Hold) int {
		if a.Id < b.Id {
			return -1
		}
		return 1
	})
	return told, api.OK
}

func endBy(c api.Channel, id uint64, paid bool) (api.Channel, uint64, api.Errno) {
	h, there := find(c, id)
	switch {
	case !mayBe(c):
		return api.Channel{}, 0, api.ErrArg
	case !there:
		return api.Channel{}, 0, api.ErrNone
	}
	told := copyOf(c)
	told.Holds = nil
	for _, other := range c.Holds {
		if other.Id != id {
			told.Holds = append(told.Holds, other)
		}
	}
	if paid {
		told.Remote += h.N
	} else {
		told.Local += h.N
	}
	return told, h.N, api.OK
}

func pushBy(c api.Channel, n uint64) (api.Channel, api.Errno) {
	switch {
	case !mayBe(c), n > most:
		return api.Channel{}, api.ErrArg
	case !c.Open:
		return api.Channel{}, api.ErrClosed
	case c.Remote < n:
		return api.Channel{}, api.ErrPoor
	}
	told := copyOf(c)
	told.Local, told.Remote = told.Local+n, told.Remote-n
	return told, api.OK
}

func closeBy(c api.Channel) (api.Channel, api.Errno) {
	switch {
	case !mayBe(c):
		return api.Channel{}, api.ErrArg
	case !c.Open:
		return api.Channel{}, api.ErrClosed
	case len(c.Holds) > 0:
		return api.Channel{}, api.ErrState
	}
	told := copyOf(c)
	told.Open = false
	return told, api.OK
}

// equal is worked out apart from Same.
func equal(a, b api.Channel) bool {
	if a.Id != b.Id || a.Local != b.Local || a.Remote != b.Remote || a.Reserve != b.Reserve || a.Most != b.Most || a.Open != b.Open {
		return false
	}
	return equalHolds(a.Holds, b.Holds)
}

func equalHolds(a, b []api.Hold) bool {
	if len(a) != len(b) {
		return false
	}
	for i := range a {
		if a[i].Id != b[i].Id || a[i].N != b[i].N {
			return false
		}
	}
	return true
}

// wipe writes over all holds, and those behind their end.
func wipe(l []api.Hold) {
	l = l[:cap(l)]
	for i := range l {
		l[i] = hold(99, 99)
	}
}

// wantChannel takes the call by its parts, as it is written out only where it is told.
func wantChannel(t *testing.T, got api.Channel, e api.Errno, want api.Channel, wantE api.Errno, call string, handed ...any) {
	t.Helper()
	if !equal(got, want) || e != wantE {
		t.Errorf("%s%v = %v, %d; want %v, %d", call, handed, got, e, want, wantE)
	}
}

func wantAmount(t *testing.T, got uint64, e api.Errno, want uint64, wantE api.Errno, call string, handed ...any) {
	t.Helper()
	if got != want || e != wantE {
		t.Errorf("%s%v = %d, %d; want %d, %d", call, handed, got, e, want, wantE)
	}
}

func wantHeld(t *testing.T, c api.Channel, want uint64, wantE api.Errno) {
	t.Helper()
	n, e := Held(c)
	wantAmount(t, n, e, want, wantE, "Held", c)
}

func wantAll(t *testing.T, c api.Channel, want uint64, wantE api.Errno) {
	t.Helper()
	n, e := All(c)
	wantAmount(t, n, e, want, wantE, "All", c)
}

func wantRoom(t *testing.T, c api.Channel, want uint64, wantE api.Errno) {
	t.Helper()
	n, e := Room(c)
	wantAmount(t, n, e, want, wantE, "Room", c)
}

func wantHold(t *testing.T, c api.Channel, id, n uint64, want api.Channel, wantE api.Errno) {
	t.Helper()
	got, e := Hold(c, id, n)
	wantChannel(t, got, e, want, wantE, "Hold", c, id, n)
}

func wantSettle(t *testing.T, c api.Channel, id uint64, want api.Channel, wantN uint64, wantE api.Errno) {
	t.Helper()
	got, n, e := Settle(c, id)
	wantChannel(t, got, e, want, wantE, "Settle", c, id)
	wantAmount(t, n, e, wantN, wantE, "Settle", c, id)
}

func wantFail(t *testing.T, c api.Channel, id uint64, want api.Channel, wantN uint64, wantE api.Errno) {
	t.Helper()
	got, n, e := Fail(c, id)
	wantChannel(t, got, e, want, wantE, "Fail", c, id)
	wantAmount(t, n, e, wantN, wantE, "Fail", c, id)
}

func wantPush(t *testing.T, c api.Channel, n uint64, want api.Channel, wantE api.Errno) {
	t.Helper()
	got, e := Push(c, n)
	wantChannel(t, got, e, want, wantE, "Push", c, n)
}

func wantClose(t *testing.T, c api.Channel, want api.Channel, wantE api.Errno) {
	t.Helper()
	got, e := Close(c)
	wantChannel(t, got, e, want, wantE, "Close", c)
}

// holdTellers holds the calls that tell something of a channel against the chapter's words.
func holdTellers(t *testing.T, c api.Channel) {
	t.Helper()
	_, want := amountBy(c, 0)
	if e := Check(c); e != want {
		t.Errorf("Check(%v) = %d; want %d", c, e, want)
	}
	n, e := amountBy(c, heldBy(c))
	wantHeld(t, c, n, e)
	n, e = amountBy(c, sumOf(c.Local, c.Remote, heldBy(c)))
	wantAll(t, c, n, e)
	n, e = roomBy(c)
	wantRoom(t, c, n, e)
}

// holdDoers holds the calls that do something with a channel against the chapter's words.
func holdDoers(t *testing.T, c api.Channel, ids, ns []uint64) {
	t.Helper()
	for _, id := range ids {
		for _, n := range ns {
			want, e := holdBy(c, id, n)
			wantHold(t, c, id, n, want, e)
		}
		want, n, e := endBy(c, id, true)
		wantSettle(t, c, id, want, n, e)
		want, n, e = endBy(c, id, false)
		wantFail(t, c, id, want, n, e)
	}
	for _, n := range ns {
		want, e := pushBy(c, n)
		wantPush(t, c, n, want, e)
	}
	want, e := closeBy(c)
	wantClose(t, c, want, e)
}

// P9.1
func TestCheck(t *testing.T) {
	for _, c := range right() {
		if e := Check(c); e != api.OK || !mayBe(c) {
			t.Errorf("Check(%v) = %d", c, e)
		}
	}
	for name, c := range wrong() {
		if e := Check(c); e != api.ErrArg || mayBe(c) {
			t.Errorf("%s: Check(%v) = %d", name, c, e)
		}
	}
}

// P9.1: how many holds there may be.
func TestCheckHowMany(t *testing.T) {
	for n := range 3 * full {
		want := api.OK
		if n > full {
			want = api.ErrArg
		}
		if e := Check(open(0, 0, 0, most, ones(n)...)); e != want {
			t.Errorf("Check of %d holds = %d; want %d", n, e, want)
		}
	}
}

// P9.1: each pair of places, with one Id at both.
func TestCheckEachPair(t *testing.T) {
	for i := range full {
		for j := range i {
			l := ones(full)
			l[i].Id = l[j].Id
			if e := Check(open(0, 0, 0, most, l...)); e != api.ErrArg {
				t.Errorf("Check, one Id at %d and %d = %d", j, i, e)
			}
		}
	}
}

// P9.1: just at what may be, and one beyond, for each amount by itself, and for all together.
func TestCheckAtEdges(t *testing.T) {
	for _, x := range []struct {
		name string
		make func(n uint64) api.Channel
		edge uint64
	}{
		{"Local", func(n uint64) api.Channel { return open(n, 0, 0, 0) }, most},
		{"Remote", func(n uint64) api.Channel { return open(0, n, 0, 0) }, most},
		{"Reserve", func(n uint64) api.Channel { return open(0, 0, n, 0) }, most},
		{"Most", func(n uint64) api.Channel { return open(0, 0, 0, n) }, most},
		{"Local, not open", func(n uint64) api.Channel { return closed(n, 0, 0, 0) }, most},
		{"Remote, not open", func(n uint64) api.Channel { return closed(0, n, 0, 0) }, most},
		{"Reserve, not open", func(n uint64) api.Channel { return closed(0, 0, n, 0) }, most},
		{"Most, not open", func(n uint64) api.Channel { return closed(0, 0, 0, n) }, most},
		{"Local, by Remote", func(n uint64) api.Channel { return open(n, 7, 0, 0) }, most - 7},
		{"Remote, by Local", func(n uint64) api.Channel { return closed(7, n, 0, 0) }, most - 7},
		{"Local, by a hold", func(n uint64) api.Channel { return open(n, 0, 0, 7, hold(1, 7)) }, most - 7},
		{"Remote, by a hold", func(n uint64) api.Channel { return open(0, n, 0, 7, hold(1, 7)) }, most - 7},
		{"Local, by both", func(n uint64) api.Channel { return open(n, 5, 0, 7, hold(1, 7)) }, most - 12},
		{"Remote, by both", func(n uint64) api.Channel { return open(5, n, 0, 7, hold(1, 3), hold(2, 4)) }, most - 12},
		{"a hold, by itself", func(n uint64) api.Channel { return open(0, 0, 0, most, hold(1, n)) }, most},
		{"a hold, by Most", func(n uint64) api.Channel { return open(0, 0, 0, 70, hold(1, n)) }, 70},
		{"the first hold, by Most", func(n uint64) api.Channel { return open(0, 0, 0, 70, hold(1, n), hold(2, 20)) }, 50},
		{"the last hold, by Most", func(n uint64) api.Channel { return open(0, 0, 0, 70, hold(1, 20), hold(2, n)) }, 50},
		{"the last of MaxHolds, by Most", func(n uint64) api.Channel { return open(0, 0, 0, 70, append(ones(full-1), hold(greatest, n))...) }, 7},
		{"a hold, by all", func(n uint64) api.Channel { return open(most/4, most/4, 0, most, hold(1, most/4), hold(2, n)) }, most / 4},
	} {
		for _, n := range []uint64{1, x.edge - 1, x.edge} {
			if e := Check(x.make(n)); e != api.OK {
				t.Errorf("%s: Check(%v) = %d", x.name, x.make(n), e)
			}
		}
		for _, n := range []uint64{x.edge + 1, x.edge + 2, most + 1, 1 << 63, greatest - most, greatest} {
			if e := Check(x.make(n)); e != api.ErrArg {
				t.Errorf("%s: Check(%v) = %d", x.name, x.make(n), e)
			}
		}
	}
}

// others are channels that each differ from the one handed in by one part.
func others(c api.Channel) map[string]api.Channel {
	m := map[string]api.Channel{}
	change := func(name string, do func(c *api.Channel)) {
		d := copyOf(c)
		do(&d)
		m[name] = d
	}
	change("Id", func(c *api.Channel) { c.Id++ })
	change("Local", func(c *api.Channel) { c.Local++ })
	change("Remote", func(c *api.Channel) { c.Remote++ })
	change("Reserve", func(c *api.Channel) { c.Reserve++ })
	change("Most", func(c *api.Channel) { c.Most++ })
	change("Open", func(c *api.Channel) { c.Open = !c.Open })
	change("Local and Remote", func(c *api.Channel) { c.Local, c.Remote = c.Remote+1, c.Local })
	change("Reserve and Most", func(c *api.Channel) { c.Reserve, c.Most = c.Most+1, c.Reserve })
	change("one more hold", func(c *api.Channel) { c.Holds = append(c.Holds, hold(greatest, 1)) })
	change("one more hold, all zero", func(c *api.Channel) { c.Holds = append(c.Holds, api.Hold{}) })
	for i := range c.Holds {
		change(fmt.Sprint("Id of ", i), func(c *api.Channel) { c.Holds[i].Id++ })
		change(fmt.Sprint("N of ", i), func(c *api.Channel) { c.Holds[i].N++ })
		change(fmt.Sprint("no ", i), func(c *api.Channel) { c.Holds = slices.Delete(c.Holds, i, i+1) })
	}
	for i := 1; i < len(c.Holds); i++ {
		// Two holds that are alike are the same, either way round.
		if c.Holds[i] == c.Holds[i-1] {
			continue
		}
		change(fmt.Sprint("changed about at ", i), func(c *api.Channel) { c.Holds[i], c.Holds[i-1] = c.Holds[i-1], c.Holds[i] })
	}
	return m
}

// P9.1: also of channels that may not be, as Same tells no error.
func TestSame(t *testing.T) {
	l := right()
	for _, c := range wrong() {
		l = append(l, c)
	}
	for _, c := range l {
		if !Same(c, c) || !Same(c, copyOf(c)) || !Same(copyOf(c), c) {
			t.Errorf("Same(%v, the same) = false", c)
		}
		for name, other := range others(c) {
			if Same(c, other) || Same(other, c) {
				t.Errorf("%s: Same(%v, %v) = true", name, c, other)
			}
		}
	}
	for _, a := range right() {
		for _, b := range right() {
			if is := Same(a, b); is != equal(a, b) {
				t.Errorf("Same(%v, %v) = %v", a, b, is)
			}
		}
	}
}

// R3: no holds are the same, nil or empty, and so are holds with room behind their end.
func TestSameWithoutHolds(t *testing.T) {
	for _, c := range []api.Channel{open(1, 2, 3, 4), closed(1, 2, 3, 4), {}} {
		empty, room := c, c
		c.Holds = nil
		empty.Holds = []api.Hold{}
		room.Holds = ones(9)[:0]
		if !Same(c, empty) || !Same(empty, c) || !Same(c, room) || !Same(room, empty) {
			t.Errorf("%v is not the same as with an empty list", c)
		}
	}
	long := open(0, 0, 0, 99, ones(9)...)
	short := long
	short.Holds = long.Holds[:3]
	if Same(long, short) || !Same(short, open(0, 0, 0, 99, ones(3)...)) {
		t.Errorf("Same looks behind the end of holds")
	}
}

// P9.1
func TestHeldAndAll(t *testing.T) {
	for _, x := range []struct {
		c         api.Channel
		held, all uint64
	}{
		{api.Channel{}, 0, 0}, {open(0, 0, 0, 0), 0, 0}, {open(1, 0, 0, 0), 0, 1}, {open(0, 1, 0, 0), 0, 1},
		{open(100, 50, 10, 60), 0, 150}, {closed(100, 50, 10, 60), 0, 150}, {some(), 60, 210},
		{open(0, 0, 0, 1, hold(7, 1)), 1, 1}, {open(2, 3, 9, 9, hold(7, 5)), 5, 10},
		{open(0, 0, most, most), 0, 0}, {open(most, 0, 0, 0), 0, most}, {closed(0, most, 0, 0), 0, most}, {open(most-1, 1, 0, 0), 0, most},
		{open(0, 0, 0, most, hold(0, most)), most, most}, {open(most-1, 0, 0, 1, hold(0, 1)), 1, most}, {open(1, 1, 0, most, hold(0, most-2)), most - 2, most},
		{open(0, 0, 0, most, parts(full, most)...), most, most}, {open(1, 2, 3, 100, ones(full)...), 64, 67},
	} {
		wantHeld(t, x.c, x.held, api.OK)
		wantAll(t, x.c, x.all, api.OK)
	}
}

// P9.1: in each of its ways.
func TestRoom(t *testing.T) {
	for _, x := range []struct {
		c    api.Channel
		want uint64
	}{
		// It is not open.
		{api.Channel{}, 0}, {closed(100, 50, 10, 60), 0}, {closed(most, 0, 0, most), 0},
		// There are MaxHolds holds, and one fewer.
		{open(100, 0, 0, 100, ones(full)...), 0}, {open(100, 0, 0, 100, ones(full-1)...), 37}, {open(100, 0, 90, 100, ones(full)...), 0}, {open(100, 0, 90, 100, ones(full-1)...), 10},
		{open(most-full, 0, 0, most, ones(full)...), 0}, {open(most-full, 0, 0, most, ones(full-1)...), most - full},
		// Local is below Reserve, at it, and one above it.
		{open(0, 0, 1, 50), 0}, {open(9, 0, 10, 50), 0}, {open(10, 0, 10, 50), 0}, {open(11, 0, 10, 50), 1}, {open(12, 0, 10, 50), 2},
		{open(0, 0, most, most), 0}, {open(most-1, 0, most, most), 0}, {open(most, 0, most, most), 0}, {open(most, 0, most-1, most), 1},
		{open(9, 0, 10, 50, hold(1, 9)), 0}, {open(10, 0, 10, 50, hold(1, 9)), 0}, {open(11, 0, 10, 50, hold(1, 9)), 1},
		// Local less Reserve is the lesser one.
		{open(100, 50, 10, 91), 90}, {open(100, 50, 0, most), 100}, {open(100, 50, 10, 101, hold(1, 10)), 90}, {open(most, 0, 0, most), most}, {open(most, 0, 5, most), most - 5},
		// Both are the same.
		{open(100, 50, 10, 90), 90}, {open(100, 50, 10, 100, hold(1, 10)), 90}, {open(0, 0, 0, 0), 0}, {open(10, 0, 10, 9, hold(1, 9)), 0},
		// Most less Held is the lesser one.
		{open(100, 50, 10, 89), 89}, {open(100, 50, 10, 60), 60}, {open(100, 50, 10, 99, hold(1, 10)), 89}, {open(100, 50, 10, 1), 1}, {open(100, 50, 10, 0), 0},
		{open(100, 50, 10, 60, hold(1, 60)), 0}, {open(100, 50, 10, 60, hold(1, 59)), 1}, {open(most/2, 0, 0, most, hold(1, most/2)), most / 2}, {some(), 10},
		// What is theirs makes no room.
		{open(0, most, 0, most), 0}, {open(3, most-3, 0, most), 3},
	} {
		wantRoom(t, x.c, x.want, api.OK)
	}
}

// P9.1, P9.2: what has room can be held, and no more.
func TestRoomIsWhatCanBeHeld(t *testing.T) {
	for _, c := range right() {
		room, e := Room(c)
		if e != api.OK {
			t.Fatalf("Room(%v): %d", c, e)
		}
		const free = 1 << 40
		for _, n := range []uint64{1, 2, room - 1, room, room + 1, room + 2, most} {
			if n == 0 || n > most {
				continue
			}
			if _, e := Hold(c, free, n); (e == api.OK) != (n <= room) {
				t.Errorf("Hold(%v, %d) = %d; there is room for %d", c, n, e, room)
			}
		}
	}
}

// P9.2
func TestHold(t *testing.T) {
	two := open(100, 50, 10, 60, hold(4, 10), hold(8, 20))
	for _, x := range []struct {
		c     api.Channel
		id, n uint64
		want  api.Channel
		e     api.Errno
	}{
		// No hold, and one.
		{open(100, 50, 10, 60), 7, 40, open(60, 50, 10, 60, hold(7, 40)), api.OK},
		{open(100, 50, 10, 60), 0, 1, open(99, 50, 10, 60, hold(0, 1)), api.OK},
		{open(100, 50, 10, 60), greatest, 60, open(40, 50, 10, 60, hold(greatest, 60)), api.OK},
		{open(60, 50, 10, 60, hold(7, 40)), 3, 20, open(40, 50, 10, 60, hold(3, 20), hold(7, 40)), api.OK},
		{open(60, 50, 10, 60, hold(7, 40)), 8, 20, open(40, 50, 10, 60, hold(7, 40), hold(8, 20)), api.OK},
		// The first, in the middle, and the last.
		{two, 0, 5, open(95, 50, 10, 60, hold(0, 5), hold(4, 10), hold(8, 20)), api.OK},
		{two, 3, 5, open(95, 50, 10, 60, hold(3, 5), hold(4, 10), hold(8, 20)), api.OK},
		{two, 5, 5, open(95, 50, 10, 60, hold(4, 10), hold(5, 5), hold(8, 20)), api.OK},
		{two, 7, 5, open(95, 50, 10, 60, hold(4, 10), hold(7, 5), hold(8, 20)), api.OK},
		{two, 9, 5, open(95, 50, 10, 60, hold(4, 10), hold(8, 20), hold(9, 5)), api.OK},
		{two, greatest, 5, open(95, 50, 10, 60, hold(4, 10), hold(8, 20), hold(greatest, 5)), api.OK},
		// An Id that is another number of the channel's is none that is there.
		{two, 1, 30, open(70, 50, 10, 60, hold(1, 30), hold(4, 10), hold(8, 20)), api.OK},
		{two, 10, 30, open(70, 50, 10, 60, hold(4, 10), hold(8, 20), hold(10, 30)), api.OK},
		// Just as much as there is, and one more.
		{open(10, 0, 2, 50), 1, 8, open(2, 0, 2, 50, hold(1, 8)), api.OK}, {open(10, 0, 2, 50), 1, 9, api.Channel{}, api.ErrPoor},
		{open(10, 0, 0, 50), 1, 10, open(0, 0, 0, 50, hold(1, 10)), api.OK}, {open(10, 0, 0, 50), 1, 11, api.Channel{}, api.ErrPoor},
		{open(most, 0, 0, most), 1, most, open(0, 0, 0, most, hold(1, most)), api.OK}, {open(most, 0, 1, most), 1, most - 1, open(1, 0, 1, most, hold(1, most-1)), api.OK},
		{open(most, 0, 1, most), 1, most, api.Channel{}, api.ErrPoor}, {open(most-1, 1, 0, most), 1, most, api.Channel{}, api.ErrPoor},
		{two, 5, 30, open(70, 50, 10, 60, hold(4, 10), hold(5, 30), hold(8, 20)), api.OK}, {two, 5, 31, api.Channel{}, api.ErrOver},
		{open(100, 0, 0, 8), 1, 8, open(92, 0, 0, 8, hold(1, 8)), api.OK}, {open(100, 0, 0, 8), 1, 9, api.Channel{}, api.ErrOver},
		{open(100, 0, 0, 0), 1, 1, api.Channel{}, api.ErrOver}, {open(most, 0, 0, most-1), 1, most, api.Channel{}, api.ErrOver},
		{open(most/2, 0, 0, most/2, hold(1, most/2)), 2, 1, api.Channel{}, api.ErrOver},
		// Local below Reserve, at it, and one above it.
		{open(9, 0, 10, 50), 1, 1, api.Channel{}, api.ErrPoor}, {open(10, 0, 10, 50), 1, 1, api.Channel{}, api.ErrPoor},
		{open(11, 0, 10, 50), 1, 1, open(10, 0, 10, 50, hold(1, 1)), api.OK}, {open(11, 0, 10, 50), 1, 2, api.Channel{}, api.ErrPoor},
		{open(0, 0, most, most), 1, 1, api.Channel{}, api.ErrPoor}, {open(0, 0, most, most), 1, most, api.Channel{}, api.ErrPoor},
		{open(0, 0, 1, most), 1, most, api.Channel{}, api.ErrPoor}, {open(0, most, 0, most), 1, 1, api.Channel{}, api.ErrPoor},
		// It is there, or it is not open.
		{two, 4, 5, api.Channel{}, api.ErrThere}, {two, 8, 5, api.Channel{}, api.ErrThere}, {two, 4, 10, api.Channel{}, api.ErrThere},
		{closed(100, 50, 10, 60), 7, 40, api.Channel{}, api.ErrClosed}, {closed(100, 50, 10, 60), 7, 1, api.Channel{}, api.ErrClosed},
		// No amount that may be held.
		{two, 5, 0, api.Channel{}, api.ErrArg}, {two, 5, most + 1, api.Channel{}, api.ErrArg}, {two, 5, 1 << 63, api.Channel{}, api.ErrArg}, {two, 5, greatest, api.Channel{}, api.ErrArg},
	} {
		wantHold(t, x.c, x.id, x.n, x.want, x.e)
	}
}

// P9.2: up to MaxHolds, from above and from below.
func TestHoldUpToMaxHolds(t *testing.T) {
	for name, idOf := range map[string]func(i uint64) uint64{
		"rising": func(i uint64) uint64 { return i }, "falling": func(i uint64) uint64 { return greatest - i }, "mixed": func(i uint64) uint64 { return i * 37 % full },
	} {
		c := open(1000, 50, 10, 500)
		for i := range uint64(full) {
			want, _ := holdBy(c, idOf(i), 1+i%7)
			got, e := Hold(c, idOf(i), 1+i%7)
			wantChannel(t, got, e, want, api.OK, name, c, idOf(i))
			c = got
		}
		if len(c.Holds) != full || Check(c) != api.OK {
			t.Fatalf("%s: got %v", name, c)
		}
		wantRoom(t, c, 0, api.OK)
		wantHold(t, c, 1<<40, 1, api.Channel{}, api.ErrFull)
		wantHold(t, c, idOf(0), 1, api.Channel{}, api.ErrThere)
		less, n, e := Fail(c, idOf(5))
		if e != api.OK || n != 6 {
			t.Fatalf("%s: Fail tells %d, %d", name, n, e)
		}
		wantHold(t, less, idOf(5), 6, c, api.OK)
	}
}

// P9.2: of the errors that apply the one that the chapter names first.
func TestHoldErrorsInOrder(t *testing.T) {
	// All that can be wrong at once is left out one by one: it is there, there are MaxHolds, Local is below Reserve, and Most is reached.
	poorAndOver := open(5, 0, 10, full, ones(full)...)
	for _, x := range []struct {
		name  string
		c     api.Channel
		id, n uint64
		e     api.Errno
	}{
		{"a channel that may not be, not open", closed(most, 1, 0, 0), 1, 1, api.ErrArg},
		{"not open, with that hold", closed(5, 0, 0, 9, hold(1, 1)), 1, 1, api.ErrArg},
		{"too many holds, and it is there", open(5, 0, 0, 999, ones(full+1)...), 3, 1, api.ErrArg},
		{"held more than Most", open(5, 0, 0, 1, hold(1, 2)), 2, 1, api.ErrArg},
		{"0, not open", closed(0, 0, 10, 0), 1, 0, api.ErrArg},
		{"too much, not open", closed(0, 0, 10, 0), 1, most + 1, api.ErrArg},
		{"0, there, full, poor, over", poorAndOver, 3, 0, api.ErrArg},
		{"too much, there, full, poor, over", poorAndOver, 3, most + 1, api.ErrArg},
		{"greatest, full, poor, over", poorAndOver, 1, greatest, api.ErrArg},
		{"0, poor", open(5, 0, 10, 10), 1, 0, api.ErrArg},
		{"too much, poor, over", open(5, 0, 0, 1), 1, most + 1, api.ErrArg},
		{"not open, poor", closed(5, 0, 10, 10), 1, 1, api.ErrClosed},
		{"not open, poor, over", closed(5, 0, 10, 0), 1, 1, api.ErrClosed},
		{"not open, over", closed(5, 0, 0, 0), 1, 1, api.ErrClosed},
		{"there, full, poor, over", poorAndOver, 3, 1, api.ErrThere},
		{"there, full, poor, over, the last", poorAndOver, 3 * full, most, api.ErrThere},
		{"there, full", open(50, 0, 10, 99, ones(full)...), 3, 1, api.ErrThere},
		{"there, poor", open(5, 0, 10, 99, hold(1, 1)), 1, 1, api.ErrThere},
		{"there, over", open(50, 0, 10, 1, hold(1, 1)), 1, 1, api.ErrThere},
		{"full, poor, over", poorAndOver, 1, 1, api.ErrFull},
		{"full, poor", open(5, 0, 10, 99, ones(full)...), 1, 1, api.ErrFull},
		{"full, over", open(50, 0, 10, full, ones(full)...), 1, 1, api.ErrFull},
		{"full", open(50, 0, 10, 99, ones(full)...), 1, 1, api.ErrFull},
		{"poor by Reserve, over", open(5, 0, 10, full-1, ones(full-1)...), 1, 1, api.ErrPoor},
		{"poor by n, over", open(50, 0, 10, full-1, ones(full-1)...), 1, 41, api.ErrPoor},
		{"poor, over by much", open(50, 0, 10, 5), 1, most, api.ErrPoor},
		{"over", open(50, 0, 10, full-1, ones(full-1)...), 1, 40, api.ErrOver},
		{"nothing", open(50, 0, 10, full-1+40, ones(full-1)...), 1, 40, api.OK},
	} {
		got, e := Hold(x.c, x.id, x.n)
		if e != x.e || e != api.OK && !equal(got, api.Channel{}) {
			t.Errorf("%s: Hold(%v, %d, %d) = %v, %d; want %d", x.name, x.c, x.id, x.n, got, e, x.e)
		}
	}
}

// P9.3
func TestSettleAndFail(t *testing.T) {
	three := open(100, 50, 10, 70, hold(3, 10), hold(5, 20), hold(9, 30))
	big := open(0, 0, 0, most, hold(7, most))
	for _, x := range []struct {
		c             api.Channel
		id            uint64
		theirs, fails api.Channel
		n             uint64
		e             api.Errno
	}{
		// The only one, the first, the one in the middle, and the last.
		{open(5, 6, 7, 8, hold(0, 1)), 0, open(5, 7, 7, 8), open(6, 6, 7, 8), 1, api.OK},
		{open(5, 6, 7, 8, hold(greatest, 8)), greatest, open(5, 14, 7, 8), open(13, 6, 7, 8), 8, api.OK},
		{three, 3, open(100, 60, 10, 70, hold(5, 20), hold(9, 30)), open(110, 50, 10, 70, hold(5, 20), hold(9, 30)), 10, api.OK},
		{three, 5, open(100, 70, 10, 70, hold(3, 10), hold(9, 30)), open(120, 50, 10, 70, hold(3, 10), hold(9, 30)), 20, api.OK},
		{three, 9, open(100, 80, 10, 70, hold(3, 10), hold(5, 20)), open(130, 50, 10, 70, hold(3, 10), hold(5, 20)), 30, api.OK},
		// As much as may be, and with Local below Reserve.
		{big, 7, open(0, most, 0, most), open(most, 0, 0, most), most, api.OK},
		{open(1, 1, 0, most, hold(7, most-2)), 7, open(1, most-1, 0, most), open(most-1, 1, 0, most), most - 2, api.OK},
		{open(1, 2, 9, 5, hold(7, 5)), 7, open(1, 7, 9, 5), open(6, 2, 9, 5), 5, api.OK},
		// There is none.
		{three, 0, api.Channel{}, api.Channel{}, 0, api.ErrNone}, {three, 4, api.Channel{}, api.Channel{}, 0, api.ErrNone}, {three, 10, api.Channel{}, api.Channel{}, 0, api.ErrNone},
		{three, 20, api.Channel{}, api.Channel{}, 0, api.ErrNone}, {three, greatest, api.Channel{}, api.Channel{}, 0, api.ErrNone},
		{open(5, 6, 7, 8), 0, api.Channel{}, api.Channel{}, 0, api.ErrNone}, {api.Channel{}, 0, api.Channel{}, api.Channel{}, 0, api.ErrNone},
		{closed(5, 6, 7, 8), 0, api.Channel{}, api.Channel{}, 0, api.ErrNone}, {closed(5, 6, 7, 8), 1, api.Channel{}, api.Channel{}, 0, api.ErrNone},
	} {
		wantSettle(t, x.c, x.id, x.theirs, x.n, x.e)
		wantFail(t, x.c, x.id, x.fails, x.n, x.e)
	}
}

// P9.2, P9.3: each place of full holds.
func TestEachPlace(t *testing.T) {
	c := open(100, 50, 10, 900, ones(full)...)
	for i := range c.Holds {
		c.Holds[i].N += uint64(i % 11)
	}
	for i, h := range c.Holds {
		rest := append(slices.Clone(c.Holds[:i]), c.Holds[i+1:]...)
		wantSettle(t, c, h.Id, open(100, 50+h.N, 10, 900, rest...), h.N, api.OK)
		wantFail(t, c, h.Id, open(100+h.N, 50, 10, 900, rest...), h.N, api.OK)
		wantHold(t, open(100+h.N, 50, 10, 900, rest...), h.Id, h.N, c, api.OK)
		for _, id := range []uint64{h.Id - 1, h.Id + 1} {
			wantSettle(t, c, id, api.Channel{}, 0, api.ErrNone)
			wantFail(t, c, id, api.Channel{}, 0, api.ErrNone)
		}
	}
}

// P9.4
func TestPush(t *testing.T) {
	for _, x := range []struct {
		c    api.Channel
		n    uint64
		want api.Channel
		e    api.Errno
	}{
		{open(60, 90, 10, 60), 90, open(150, 0, 10, 60), api.OK}, {open(60, 90, 10, 60), 91, api.Channel{}, api.ErrPoor},
		{open(60, 90, 10, 60), 1, open(61, 89, 10, 60), api.OK}, {open(60, 90, 10, 60), 0, open(60, 90, 10, 60), api.OK},
		{open(0, 0, 0, 0), 0, open(0, 0, 0, 0), api.OK}, {open(0, 0, 0, 0), 1, api.Channel{}, api.ErrPoor}, {open(90, 0, 0, 0), 1, api.Channel{}, api.ErrPoor},
		{open(0, most, most, most), most, open(most, 0, most, most), api.OK}, {open(0, most, 0, 0), most - 1, open(most-1, 1, 0, 0), api.OK},
		{open(1, most-1, 0, 0), most, api.Channel{}, api.ErrPoor}, {open(1, most-1, 0, 0), most - 1, open(most, 0, 0, 0), api.OK}, {open(most, 0, 0, 0), most, api.Channel{}, api.ErrPoor},
		// Holds stay, full or not, and neither Reserve nor Most is asked.
		{some(), 50, open(150, 0, 10, 70, hold(0, 10), hold(5, 20), hold(greatest, 30)), api.OK}, {some(), 51, api.Channel{}, api.ErrPoor},
		{open(1, 2, 50, full, ones(full)...), 2, open(3, 0, 50, full, ones(full)...), api.OK},
		// An amount that may not be is told ahead of one that is not open, that ahead of too much.
		{open(60, 90, 10, 60), most + 1, api.Channel{}, api.ErrArg}, {open(0, most, 0, 0), most + 1, api.Channel{}, api.ErrArg}, {open(60, 90, 10, 60), greatest, api.Channel{}, api.ErrArg},
		{closed(60, 90, 10, 60), most + 1, api.Channel{}, api.ErrArg}, {closed(60, 90, 10, 60), greatest, api.Channel{}, api.ErrArg},
		{closed(60, 90, 10, 60), 91, api.Channel{}, api.ErrClosed}, {closed(60, 90, 10, 60), most, api.Channel{}, api.ErrClosed},
		{closed(60, 90, 10, 60), 90, api.Channel{}, api.ErrClosed}, {closed(60, 90, 10, 60), 0, api.Channel{}, api.ErrClosed}, {api.Channel{}, 0, api.Channel{}, api.ErrClosed},
	} {
		wantPush(t, x.c, x.n, x.want, x.e)
	}
}

// P9.4
func TestClose(t *testing.T) {
	for _, x := range []struct {
		c, want api.Channel
		e       api.Errno
	}{
		{open(0, 0, 0, 0), closed(0, 0, 0, 0), api.OK}, {open(60, 90, 10, 60), closed(60, 90, 10, 60), api.OK},
		{open(most, 0, most, most), closed(most, 0, most, most), api.OK}, {open(1, 2, 3, 4), closed(1, 2, 3, 4), api.OK},
		{api.Channel{Id: greatest, Open: true, Holds: ones(4)[:0]}, api.Channel{Id: greatest}, api.OK},
		{open(60, 90, 10, 60, hold(0, 1)), api.Channel{}, api.ErrState}, {some(), api.Channel{}, api.ErrState}, {open(0, 0, 0, full, ones(full)...), api.Channel{}, api.ErrState},
		{closed(60, 90, 10, 60), api.Channel{}, api.ErrClosed}, {api.Channel{}, api.Channel{}, api.ErrClosed}, {closed(0, 0, most, most), api.Channel{}, api.ErrClosed},
		// What is not open, and has a hold, may not be.
		{closed(60, 90, 10, 60, hold(0, 1)), api.Channel{}, api.ErrArg}, {closed(0, 0, 0, full, ones(full)...), api.Channel{}, api.ErrArg},
	} {
		wantClose(t, x.c, x.want, x.e)
	}
}

// P9.4: what is closed stays so, and nothing is done with it any more.
func TestClosedStays(t *testing.T) {
	for _, c := range right() {
		d, e := Close(c)
		if e != api.OK {
			continue
		}
		wantRoom(t, d, 0, api.OK)
		wantHeld(t, d, 0, api.OK)
		wantAll(t, d, c.Local+c.Remote, api.OK)
		wantClose(t, d, api.Channel{}, api.ErrClosed)
		for _, n := range []uint64{0, 1, c.Remote, most} {
			wantPush(t, d, n, api.Channel{}, api.ErrClosed)
		}
		for _, n := range []uint64{1, c.Local, most} {
			if n > 0 {
				wantHold(t, d, 1, n, api.Channel{}, api.ErrClosed)
			}
		}
		wantSettle(t, d, 1, api.Channel{}, 0, api.ErrNone)
		wantFail(t, d, 1, api.Channel{}, 0, api.ErrNone)
	}
}

// R1: channels that may not be are told ahead of all else, and all else is zero.
func TestWrongChannels(t *testing.T) {
	for name, c := range wrong() {
		stays := copyOf(c)
		wantHeld(t, c, 0, api.ErrArg)
		wantAll(t, c, 0, api.ErrArg)
		wantRoom(t, c, 0, api.ErrArg)
		wantClose(t, c, api.Channel{}, api.ErrArg)
		ids := []uint64{0, 1, 3, 77, greatest}
		for _, h := range c.Holds {
			ids = append(ids, h.Id)
		}
		for _, id := range ids {
			wantSettle(t, c, id, api.Channel{}, 0, api.ErrArg)
			wantFail(t, c, id, api.Channel{}, 0, api.ErrArg)
			for _, n := range []uint64{0, 1, most, most + 1, greatest} {
				wantHold(t, c, id, n, api.Channel{}, api.ErrArg)
			}
		}
		for _, n := range []uint64{0, 1, c.Remote, most, most + 1, greatest} {
			wantPush(t, c, n, api.Channel{}, api.ErrArg)
		}
		if !equal(c, stays) {
			t.Errorf("%s: what was handed in changed: %v; want %v", name, c, stays)
		}
	}
}

// P9.1 to P9.4: channels of all amounts at edges, with holds that may be and such as may not, against the chapter's words.
func TestAllOfEdges(t *testing.T) {
	edges := []uint64{0, 1, 2, most - 1, most, most + 1}
	rows := [][]api.Hold{
		nil, {hold(5, 1)}, {hold(5, 2)}, {hold(5, most)}, {hold(5, 0)}, {hold(5, most+1)},
		{hold(2, 1), hold(5, 1)}, {hold(2, 1), hold(5, most-1)}, {hold(5, 1), hold(2, 1)}, {hold(5, 1), hold(5, 1)}, {hold(2, most), hold(5, most)},
	}
	for _, local := range edges {
		for _, remote := range edges {
			for _, reserve := range edges {
				for _, atMost := range edges {
					for _, l := range rows {
						for _, is := range []bool{true, false} {
							c := api.Channel{Id: 9, Local: local, Remote: remote, Reserve: reserve, Most: atMost, Holds: l, Open: is}
							holdTellers(t, c)
							holdDoers(t, c, []uint64{2, 3}, []uint64{0, 1, 2, most, most + 1})
						}
					}
				}
			}
		}
	}
}

// P9.1 to P9.4: small channels, where much is just at what may be.
func TestAllOfSmallChannels(t *testing.T) {
	rows := [][]api.Hold{nil, {hold(4, 1)}, {hold(4, 3)}, {hold(4, 2), hold(6, 1)}, {hold(2, 1), hold(4, 1), hold(6, 1)}}
	for i := range uint64(4 * 3 * 4 * 6) {
		for _, l := range rows {
			for _, is := range []bool{true, false} {
				c := api.Channel{Id: i, Local: i % 4, Remote: i / 4 % 3, Reserve: i / 12 % 4, Most: i / 48, Holds: l, Open: is}
				holdTellers(t, c)
				holdDoers(t, c, []uint64{1, 2, 3, 4, 5, 6, 7}, []uint64{0, 1, 2, 3, 4, 5})
			}
		}
	}
}

// step is one thing that is done with a channel.
type step struct {
	name  string
	id, n uint64
}

func (s step) do(c api.Channel) (api.Channel, api.Errno) {
	var e api.Errno
	switch s.name {
	case "hold":
		c, e = Hold(c, s.id, s.n)
	case "settle":
		c, _, e = Settle(c, s.id)
	case "fail":
		c, _, e = Fail(c, s.id)
	case "push":
		c, e = Push(c, s.n)
	default:
		c, e = Close(c)
	}
	return c, e
}

// wantStep holds a channel after a step against the one ahead of it: all is as much as it was, only what the step is about is another one, and a hold leaves the reserve.
func wantStep(t *testing.T, s step, ahead, after api.Channel) {
	t.Helper()
	all, e := All(ahead)
	wantAll(t, after, all, e)
	if !mayBe(after) || after.Id != ahead.Id || after.Reserve != ahead.Reserve || after.Most != ahead.Most {
		t.Errorf("%v of %v: %v", s, ahead, after)
	}
	if after.Open != (ahead.Open && s.name != "close") {
		t.Errorf("%v of %v: open is %v", s, ahead, after.Open)
	}
	if s.name == "hold" && after.Local < after.Reserve {
		t.Errorf("%v of %v: %v; Local is below Reserve", s, ahead, after)
	}
	if s.name == "hold" {
		back, n, e := Fail(after, s.id)
		wantChannel(t, back, e, ahead, api.OK, "Fail behind Hold", ahead, s)
		if n != s.n || !Same(back, ahead) {
			t.Errorf("%v of %v: what failed is %d", s, ahead, n)
		}
	}
	for _, l := range [][]api.Hold{ahead.Holds, after.Holds} {
		for _, h := range l {
			was, ahead := find(ahead, h.Id)
			is, after := find(after, h.Id)
			if (was != is || ahead != after) && (h.Id != s.id || s.name == "push" || s.name == "close") {
				t.Errorf("%v: hold %d was %v, and is %v", s, h.Id, was, is)
			}
		}
	}
}

// P9.5: all ways of at most five steps.
func TestWhatFollows(t *testing.T) {
	steps := []step{{"push", 0, 2}, {"close", 0, 0}}
	for _, id := range []uint64{3, 6} {
		steps = append(steps, step{"hold", id, 1}, step{"hold", id, 4}, step{"settle", id, 0}, step{"fail", id, 0})
	}
	row := []api.Channel{open(9, 3, 2, 8), open(6, 0, 3, 7, hold(5, 2)), open(1, 5, 2, 9, hold(4, 1), hold(6, 1))}
	ways := 0
	for range 5 {
		var later []api.Channel
		for _, c := range row {
			for _, s := range steps {
				after, e := s.do(c)
				if e != api.OK {
					if !equal(after, api.Channel{}) {
						t.Errorf("%v of %v: %v beside %d", s, c, after, e)
					}
					continue
				}
				wantStep(t, s, c, after)
				later = append(later, after)
			}
		}
		row = later
		ways += len(row)
	}
	if ways < 1000 {
		t.Errorf("only %d ways went on", ways)
	}
}

// P9.5: long ways with great amounts, from a seed that stays; what a channel should be is kept beside it by the chapter's words.
func TestLongWays(t *testing.T) {
	for seed := range int64(30) {
		r := rand.New(rand.NewSource(seed))
		c := open(most/2, most/2, uint64(r.Int63n(most/8)), most/2+uint64(r.Int63n(most/2)))
		for range 2000 {
			s := step{[]string{"hold", "hold", "hold", "settle", "fail", "push"}[r.Intn(6)], uint64(r.Intn(100)), 1 + uint64(r.Int63n(most/40))}
			var want api.Channel
			var wantE api.Errno
			switch s.name {
			case "hold":
				want, wantE = holdBy(c, s.id, s.n)
			case "push":
				want, wantE = pushBy(c, s.n)
			default:
				want, _, wantE = endBy(c, s.id, s.name == "settle")
			}
			after, e := s.do(c)
			wantChannel(t, after, e, want, wantE, s.name, c, s.id, s.n)
			if e == api.OK {
				wantStep(t, s, c, after)
				c = after
			}
		}
		wantAll(t, c, most, api.OK)
	}
}

// The chapter's example.
func TestReserveStays(t *testing.T) {
	c := open(10, 0, 2, 100)
	wantRoom(t, c, 8, api.OK)
	wantHold(t, c, 1, 8, open(2, 0, 2, 100, hold(1, 8)), api.OK)
	wantHold(t, c, 1, 9, api.Channel{}, api.ErrPoor)
}

// calls are those that answer a channel, where each is right of some(), or of the same without holds.
func calls() map[string]func(c api.Channel) api.Channel {
	first := func(c api.Channel, _ api.Errno) api.Channel { return c }
	ended := func(c api.Channel, _ uint64, _ api.Errno) api.Channel { return c }
	return map[string]func(c api.Channel) api.Channel{
		"Hold ahead":         func(c api.Channel) api.Channel { c.Holds = c.Holds[1:]; return first(Hold(c, 1, 5)) },
		"Hold in the middle": func(c api.Channel) api.Channel { return first(Hold(c, 7, 5)) },
		"Hold at the end":    func(c api.Channel) api.Channel { c.Holds = c.Holds[:2]; return first(Hold(c, 9, 5)) },
		"Hold the only one":  func(c api.Channel) api.Channel { c.Holds = c.Holds[:0]; return first(Hold(c, 9, 5)) },
		"Settle the first":   func(c api.Channel) api.Channel { return ended(Settle(c, 0)) },
		"Settle the second":  func(c api.Channel) api.Channel { return ended(Settle(c, 5)) },
		"Settle the last":    func(c api.Channel) api.Channel { return ended(Settle(c, greatest)) },
		"Settle the only":    func(c api.Channel) api.Channel { c.Holds = c.Holds[:1]; return ended(Settle(c, 0)) },
		"Fail the first":     func(c api.Channel) api.Channel { return ended(Fail(c, 0)) },
		"Fail the second":    func(c api.Channel) api.Channel { return ended(Fail(c, 5)) },
		"Fail the last":      func(c api.Channel) api.Channel { return ended(Fail(c, greatest)) },
		"Push":               func(c api.Channel) api.Channel { return first(Push(c, 5)) },
		"Push nothing":       func(c api.Channel) api.Channel { return first(Push(c, 0)) },
		"Push, no hold":      func(c api.Channel) api.Channel { c.Holds = c.Holds[:0]; return first(Push(c, 5)) },
		"Close":              func(c api.Channel) api.Channel { c.Holds = c.Holds[:0]; return first(Close(c)) },
	}
}

// R2: what is told is new, and what is handed in stays as it was, also behind its end.
func TestToldIsNew(t *testing.T) {
	for name, call := range calls() {
		room := append([]api.Hold{hold(77, 77)}, append(some().Holds, hold(88, 88), hold(89, 89), hold(90, 90))...)
		kept := slices.Clone(room)
		c := some()
		c.Holds = room[1:4]
		told, again := call(c), call(c)
		want := copyOf(told)
		if told.Id != c.Id || !equal(told, again) || !equalHolds(room, kept) {
			t.Fatalf("%s: %v, and then %v; %v was handed in", name, told, again, room)
		}
		// What is written behind an answer's end is the caller's own, too.
		wipe(told.Holds)
		_ = append(told.Holds, hold(99, 99))
		if !equal(again, want) || !equalHolds(room, kept) {
			t.Errorf("%s: what was told shares memory: %v, %v", name, again, room)
		}
		wipe(room)
		if !equal(again, want) {
			t.Errorf("%s: what was told hangs on what was handed in: %v", name, again)
		}
	}
}

// R2: what does nothing with a channel, and what tells an error, changes nothing.
func TestHandedInStays(t *testing.T) {
	l := right()
	for _, c := range wrong() {
		l = append(l, c)
	}
	for _, kept := range l {
		room := append(slices.Clone(kept.Holds), hold(88, 88), hold(89, 89))
		c := kept
		c.Holds = room[:len(kept.Holds)]
		Check(c)
		Same(c, kept)
		Held(c)
		All(c)
		Room(c)
		Close(c)
		for _, n := range []uint64{0, 1, 3, 30, most, most + 1, greatest} {
			Settle(c, n)
			Fail(c, n)
			Push(c, n)
			for _, id := range []uint64{0, 3, 4, 500, greatest} {
				Hold(c, id, n)
			}
		}
		if !equal(c, kept) || !equalHolds(room[len(kept.Holds):], []api.Hold{hold(88, 88), hold(89, 89)}) {
			t.Errorf("what was handed in changed: %v; want %v", room, kept)
		}
	}
}

// FuzzChannel holds all calls against the chapter's words; each hold is made of two octets.
func FuzzChannel(f *testing.F) {
	f.Add(uint64(100), uint64(50), uint64(10), uint64(60), true, []byte{3, 20, 7, 40}, uint64(5), uint64(1))
	f.Add(uint64(most), uint64(most), uint64(0), uint64(most), true, []byte{1, 1, 2, 1}, uint64(1), uint64(most))
	f.Add(uint64(5), uint64(0), uint64(10), uint64(9), true, []byte{3, 1, 3, 1}, uint64(3), uint64(0))
	f.Add(uint64(5), uint64(7), uint64(1), uint64(9), false, []byte{}, uint64(3), uint64(most+1))
	f.Fuzz(func(t *testing.T, local, remote, reserve, atMost uint64, is bool, b []byte, id, n uint64) {
		c := api.Channel{Id: id, Local: local, Remote: remote, Reserve: reserve, Most: atMost, Open: is}
		for ; len(b) >= 2; b = b[2:] {
			c.Holds = append(c.Holds, hold(uint64(b[0]), uint64(b[1])))
		}
		holdTellers(t, c)
		holdDoers(t, c, []uint64{id, id % 256, n % 256}, []uint64{n, n % 256, local, remote})
	})
}
