package ledger

import (
	"fmt"
	"math"
	"math/rand"
	"slices"
	"testing"

	"damson/api"
	"damson/channel"
)

// The limits and the greatest number are written out, so that the tests do not lean on what they hold the program against.
const (
	full      = 32
	fullHolds = 64
	most      = 1 << 62
	greatest  = math.MaxUint64
)

func row(l ...api.Channel) []api.Channel { return l }

func hold(id, n uint64) api.Hold { return api.Hold{Id: id, N: n} }

func open(id, local, remote, reserve, atMost uint64, holds ...api.Hold) api.Channel {
	return api.Channel{Id: id, Local: local, Remote: remote, Reserve: reserve, Most: atMost, Holds: holds, Open: true}
}

// closed is one that is not open.
func closed(id, local, remote, reserve, atMost uint64, holds ...api.Hold) api.Channel {
	c := open(id, local, remote, reserve, atMost, holds...)
	c.Open = false
	return c
}

// plain is one of which all that is ours can be held.
func plain(id, local uint64, holds ...api.Hold) api.Channel {
	return open(id, local, 0, 0, most, holds...)
}

// some are channels with both edges: with holds at the front, in the middle and at the end, one without, and one that is not open.
func some() []api.Channel {
	return row(
		open(0, 100, 50, 10, 70, hold(3, 10), hold(40, 20)),
		open(4, 9, 8, 7, 6),
		closed(5, 70, 30, 5, 90),
		open(9, 60, 0, 0, 50, hold(0, 5), hold(8, 6), hold(greatest, 7)),
		open(greatest, 0, 11, 1, 9, hold(20, 9)),
	)
}

// many are n channels of every third number from 3 on; each fifth one is not open, others have up to three holds, whose Ids fall from channel to channel.
func many(n int) []api.Channel {
	l := make([]api.Channel, n)
	for i := range l {
		l[i] = open(uint64(3*i+3), uint64(100+i), uint64(50+i), 10, 90)
		l[i].Open = i%5 != 4
		for k := range i % 4 {
			if l[i].Open {
				l[i].Holds = append(l[i].Holds, hold(uint64(1000*k+2*(n-i)), uint64(k+1)))
			}
		}
	}
	return l
}

// bursting are n channels that have MaxHolds holds each.
func bursting(n int) []api.Channel {
	l := make([]api.Channel, n)
	for i := range l {
		l[i] = open(uint64(3*i+3), 500, 50, 10, 900)
		for k := range fullHolds {
			l[i].Holds = append(l[i].Holds, hold(uint64(100*k+3*((i*7)%n)), uint64(1+(i+k)%7)))
		}
	}
	return l
}

// bare are n channels of nothing.
func bare(n int) []api.Channel {
	l := make([]api.Channel, n)
	for i := range l {
		l[i].Id = uint64(i)
	}
	return l
}

// each are n channels of the same Local.
func each(n int, local uint64) []api.Channel {
	l := bare(n)
	for i := range l {
		l[i].Local = local
	}
	return l
}

// right are channels that may be.
func right() [][]api.Channel {
	l := [][]api.Channel{
		nil, {}, some(), {{}}, {{Open: true}}, {{Id: greatest}}, {open(greatest, 1, 2, 3, 4)},
		{plain(0, 1), plain(greatest, 1)}, {plain(1<<63-1, 1), plain(1<<63, 1), plain(1<<63+1, 1)},
		// A number may be a channel's, and a hold's in the same one, or in another one.
		{plain(7, 1, hold(7, 1))}, {plain(7, 1, hold(8, 1)), plain(8, 1, hold(7, 1))},
		// Holds of one N are not the same.
		{plain(1, 0, hold(1, 5)), plain(2, 0, hold(2, 5)), plain(3, 0, hold(0, 5), hold(3, 5))},
		// All of all just at what may be.
		{plain(1, most)}, {closed(1, 0, most, 0, 0)}, {plain(1, most), plain(2, 0)}, {plain(1, 0), closed(2, most, 0, 0, 0)},
		{plain(1, most-1), plain(2, 1)}, {plain(1, most/2), closed(2, 0, most/2, 0, 0)}, {plain(1, 0, hold(1, most)), plain(2, 0)},
		{plain(1, 0, hold(1, most-3)), plain(2, 1), closed(3, 1, 1, 0, 0)}, {plain(1, 0, hold(1, most/2)), plain(2, 0, hold(2, most/2))},
		each(full, most/full), each(4, most/4), each(full-1, most/full),
		// Reserve and Most are no money, and are not counted.
		{open(1, 0, 0, most, most), open(2, 0, 0, most, most), open(3, most, 0, most, most), closed(4, 0, 0, most, most), closed(5, 0, 0, most, most)},
		bursting(1), bursting(2), bursting(full - 1), bursting(full),
	}
	for n := range full + 1 {
		l = append(l, many(n), bare(n))
	}
	return l
}

// wrongOnes are channels that may not be, by layer 9.
func wrongOnes() map[string]api.Channel {
	long := bursting(1)[0]
	long.Holds = append(long.Holds, hold(greatest, 1))
	return map[string]api.Channel{
		"Local above MaxMoney":     {Local: most + 1, Open: true},
		"greatest Local":           {Local: greatest},
		"Remote above MaxMoney":    {Remote: most + 1},
		"greatest Remote":          {Remote: greatest, Open: true},
		"Reserve above MaxMoney":   {Reserve: most + 1, Open: true},
		"Most above MaxMoney":      {Most: most + 1, Open: true},
		"all above MaxMoney":       open(0, most, 1, 0, 0),
		"all above, by a hold":     open(0, most, 0, 0, 9, hold(50000, 1)),
		"Local goes around":        open(0, greatest, 1, 0, 0),
		"a hold of nothing":        open(0, 9, 9, 0, 9, hold(50000, 0)),
		"a hold above Most":        open(0, 9, 9, 0, 9, hold(50000, 10)),
		"a hold above MaxMoney":    open(0, 0, 0, 0, most, hold(50000, most+1)),
		"holds go around":          open(0, 0, 0, 0, most, hold(50000, greatest), hold(50001, 2)),
		"Ids of holds fall":        open(0, 9, 9, 0, 9, hold(50001, 1), hold(50000, 1)),
		"one hold twice":           open(0, 9, 9, 0, 9, hold(50000, 1), hold(50000, 1)),
		"not open, with a hold":    closed(0, 9, 9, 0, 9, hold(50000, 1)),
		"too many holds":           long,
		"much too many holds":      open(0, 0, 0, 0, most, make([]api.Hold, 5000)...),
		"not open, too many holds": closed(0, 9, 9, 0, 900, long.Holds...),
	}
}

// wrongByOne are rows with a channel that may not be, at each place.
func wrongByOne() map[string][]api.Channel {
	m := map[string][]api.Channel{}
	for name, c := range wrongOnes() {
		m[name] = row(c)
		for _, n := range []int{3, full} {
			for _, at := range []int{0, 1, n / 2, n - 1} {
				l := many(n)
				c.Id = l[at].Id
				l[at] = c
				m[fmt.Sprintf("%s, of %d at %d", name, n, at)] = l
			}
		}
	}
	return m
}

// wrongIds are rows whose Ids do not rise, or that are too long.
func wrongIds() map[string][]api.Channel {
	m := map[string][]api.Channel{
		"Ids fall":                     {plain(2, 0), plain(1, 0)},
		"Ids fall to 0":                {plain(greatest, 0), plain(0, 0)},
		"Ids fall, beyond 63 bits":     {plain(1<<63, 0), plain(1<<63-1, 0)},
		"Ids fall at the end":          {plain(1, 0), plain(2, 0), plain(4, 0), plain(3, 0)},
		"Ids fall, not open":           {closed(2, 1, 1, 0, 0), closed(1, 1, 1, 0, 0)},
		"one Id twice":                 {plain(2, 0), plain(2, 1)},
		"Id 0 twice":                   {plain(0, 0), plain(0, 0)},
		"the greatest Id twice":        {plain(greatest, 0), plain(greatest, 0)},
		"one Id twice, one not open":   {plain(2, 0), closed(2, 0, 0, 0, 0)},
		"one Id twice, neither open":   {closed(2, 0, 0, 0, 0), closed(2, 0, 0, 0, 0)},
		"one Id twice, apart":          {plain(2, 0), plain(3, 0), plain(2, 0)},
		"all zero twice":               {{}, {}},
		"one too many":                 bare(full + 1),
		"one too many, with holds":     many(full + 1),
		"two too many":                 bare(full + 2),
		"much too many":                bare(900),
		"one too many, and one twice":  append(bare(full), api.Channel{Id: full - 1}),
		"one too many, Ids fall":       append(bare(full), api.Channel{}),
		"one too many, all zero":       make([]api.Channel, full+1),
		"one too many, all bursting":   append(bursting(full), plain(greatest, 0)),
		"one too many, not open":       append(many(full), closed(greatest, 0, 0, 0, 0)),
		"one too many, and may not be": append(bare(full), api.Channel{Id: greatest, Local: most + 1}),
	}
	for _, n := range []int{2, 3, 5, full} {
		for i := range n {
			l := many(n)
			l[i].Id = l[(i+1)%n].Id
			m[fmt.Sprintf("an Id of %d twice at %d", n, i)] = l
			l = many(n)
			l[i].Id, l[(i+1)%n].Id = l[(i+1)%n].Id, l[i].Id
			m[fmt.Sprintf("two of %d changed about at %d", n, i)] = l
		}
	}
	return m
}

// wrongHolds are rows where two channels have one hold's Id.
func wrongHolds() map[string][]api.Channel {
	m := map[string][]api.Channel{
		"one hold in two":                 {plain(1, 9, hold(5, 1)), plain(2, 9, hold(5, 1))},
		"one hold in two, another N":      {plain(1, 9, hold(5, 1)), plain(2, 9, hold(5, 2))},
		"hold 0 in two":                   {plain(1, 9, hold(0, 1)), plain(2, 9, hold(0, 1))},
		"the greatest hold in two":        {plain(1, 9, hold(greatest, 1)), plain(2, 9, hold(greatest, 1))},
		"one hold in two, apart":          {plain(1, 9, hold(5, 1)), plain(2, 9, hold(6, 1)), plain(3, 9), plain(4, 9, hold(5, 1))},
		"one hold in three":               {plain(1, 9, hold(5, 1)), plain(2, 9, hold(5, 1)), plain(3, 9, hold(5, 1))},
		"the last hold is the first":      {plain(1, 9, hold(4, 1), hold(5, 1)), plain(2, 9, hold(5, 1), hold(6, 1))},
		"the first hold is the last":      {plain(1, 9, hold(5, 1), hold(6, 1)), plain(2, 9, hold(4, 1), hold(5, 1))},
		"the middle one of three":         {plain(1, 9, hold(1, 1), hold(5, 1), hold(9, 1)), plain(2, 9, hold(4, 1), hold(5, 1), hold(6, 1))},
		"all holds in two":                {plain(1, 9, hold(4, 1), hold(5, 1)), plain(2, 9, hold(4, 1), hold(5, 1))},
		"one hold in two, as the Ids are": {plain(1, 9, hold(1, 1)), plain(2, 9, hold(1, 1))},
		"one hold in two, all at most":    {plain(1, 0, hold(5, most/2)), plain(2, 0, hold(5, most/2))},
	}
	for _, i := range []int{0, 1, full / 2, full - 1} {
		for _, k := range []int{0, 1, fullHolds - 1} {
			l := bursting(full)
			l[i].Holds[k].Id = l[(i+1)%full].Holds[k].Id
			m[fmt.Sprintf("a hold of MaxHolds in two, of channel %d at %d", i, k)] = l
		}
	}
	return m
}

// wrongSums are rows of channels that each may be, but are too much together.
func wrongSums() map[string][]api.Channel {
	m := map[string][]api.Channel{
		"Local and Local":                   {plain(1, most), plain(2, 1)},
		"Local and Remote":                  {plain(1, most), open(2, 0, 1, 0, 0)},
		"Remote and Local":                  {closed(1, 0, 1, 0, 0), plain(2, most)},
		"Local and a hold":                  {plain(1, most), plain(2, 0, hold(5, 1))},
		"a hold and Local":                  {plain(1, 0, hold(5, most)), plain(2, 1)},
		"two holds":                         {plain(1, 0, hold(5, most/2)), plain(2, 0, hold(6, most/2+1))},
		"one not open":                      {closed(1, most, 0, 0, 0), plain(2, 1)},
		"neither open":                      {closed(1, most, 0, 0, 0), closed(2, 0, 1, 0, 0)},
		"the last of three":                 {plain(1, most), plain(2, 0), plain(3, 1)},
		"one too much in all":               {open(1, most/4, most/4, 0, most, hold(5, most/4)), closed(2, most/8, most/8, 0, 0), plain(3, 1)},
		"two of most":                       each(2, most),
		"two of most are more than 63 bits": {plain(1, most), plain(2, most)},
		"three of most":                     each(3, most),
		"four of most are 0":                each(4, most),
		"four of most, and 5":               append(each(4, most), plain(9, 5)),
		"four of most, 5 ahead":             append(row(plain(0, 5)), each(5, most)[1:]...),
		"five of most":                      each(5, most),
		"eight of most are 0":               each(8, most),
		"MaxChannels of most are 0":         each(full, most),
		"MaxChannels of an eighth are 0":    each(full, most/8),
		"MaxChannels, one too much":         append(each(full-1, most/full), plain(greatest, most/full+1)),
		"MaxChannels of a bit more":         each(full, most/full+1),
		"four holds of most are 0":          {plain(1, 0, hold(1, most)), plain(2, 0, hold(2, most)), plain(3, 0, hold(3, most)), plain(4, 0, hold(4, most))},
		"Local, Remote and holds are 0":     {plain(1, most), open(2, 0, most, 0, 0), plain(3, 0, hold(3, most)), closed(4, most/2, most/2, 0, 0)},
	}
	for i := range full {
		l := each(full, most/full)
		l[i].Remote = 1
		m[fmt.Sprint("MaxChannels, one too much at ", i)] = l
	}
	return m
}

// wrong are channels that may not be.
func wrong() map[string][]api.Channel {
	m := map[string][]api.Channel{}
	for _, some := range []map[string][]api.Channel{wrongByOne(), wrongIds(), wrongHolds(), wrongSums()} {
		for name, l := range some {
			m[name] = l
		}
	}
	return m
}

// oneApart and apart have memory of their own.
func oneApart(c api.Channel) api.Channel {
	c.Holds = append([]api.Hold(nil), c.Holds...)
	return c
}

func apart(l []api.Channel) []api.Channel {
	var told []api.Channel
	for _, c := range l {
		told = append(told, oneApart(c))
	}
	return told
}

// with is the row in which the channel of that Id is so.
func with(l []api.Channel, c api.Channel) []api.Channel {
	told := apart(l)
	for i := range told {
		if told[i].Id == c.Id {
			told[i] = oneApart(c)
		}
	}
	return told
}

// sumOf is the sum, or the greatest number where the sum is beyond it.
func sumOf(l ...uint64) uint64 {
	var sum uint64
	for _, n := range l {
		if n > greatest-sum {
			return greatest
		}
		sum += n
	}
	return sum
}

func heldBy(c api.Channel) uint64 {
	var held uint64
	for _, h := range c.Holds {
		held = sumOf(held, h.N)
	}
	return held
}

// allBy is all of all together.
func allBy(l []api.Channel) uint64 {
	var all uint64
	for _, c := range l {
		all = sumOf(all, c.Local, c.Remote, heldBy(c))
	}
	return all
}

// mayBe tells, in the chapters' words, whether a channel may be.
func mayBe(c api.Channel) bool {
	if len(c.Holds) > fullHolds || len(c.Holds) > 0 && !c.Open {
		return false
	}
	for i, h := range c.Holds {
		if h.N < 1 || h.N > most || i > 0 && c.Holds[i-1].Id >= h.Id {
			return false
		}
	}
	for _, n := range []uint64{c.Local, c.Remote, c.Reserve, c.Most, sumOf(c.Local, c.Remote, heldBy(c))} {
		if n > most {
			return false
		}
	}
	return heldBy(c) <= c.Most
}

// allMayBe tells, in the chapter's words, whether channels may be.
func allMayBe(l []api.Channel) bool {
	if len(l) > full || allBy(l) > most {
		return false
	}
	var holds []uint64
	for i, c := range l {
		if !mayBe(c) || i > 0 && l[i-1].Id >= c.Id {
			return false
		}
		for _, h := range c.Holds {
			holds = append(holds, h.Id)
		}
	}
	slices.Sort(holds)
	for i := range holds {
		if i > 0 && holds[i-1] == holds[i] {
			return false
		}
	}
	return true
}

func hasHold(c api.Channel, id uint64) bool {
	for _, h := range c.Holds {
		if h.Id == id {
			return true
		}
	}
	return false
}

// getBy, whereBy, oursBy, openBy, changeBy, holdBy and endBy are what the chapter's words tell.
func getBy(l []api.Channel, id uint64) (api.Channel, api.Errno) {
	if !allMayBe(l) {
		return api.Channel{}, api.ErrArg
	}
	for _, c := range l {
		if c.Id == id {
			return c, api.OK
		}
	}
	return api.Channel{}, api.ErrNone
}

func whereBy(l []api.Channel, hold uint64) (uint64, api.Errno) {
	if !allMayBe(l) {
		return 0, api.ErrArg
	}
	for _, c := range l {
		if hasHold(c, hold) {
			return c.Id, api.OK
		}
	}
	return 0, api.ErrNone
}

func oursBy(l []api.Channel) (uint64, uint64, api.Errno) {
	if !allMayBe(l) {
		return 0, 0, api.ErrArg
	}
	var local, held uint64
	for _, c := range l {
		if c.Open {
			local += c.Local
		}
		held += heldBy(c)
	}
	return local, held, api.OK
}

func openBy(l []api.Channel, c api.Channel) ([]api.Channel, api.Errno) {
	if !allMayBe(l) || !mayBe(c) || !c.Open || len(c.Holds) != 0 {
		return nil, api.ErrArg
	}
	if _, e := getBy(l, c.Id); e == api.OK {
		return nil, api.ErrThere
	}
	if len(l) >= full {
		return nil, api.ErrFull
	}
	if sumOf(allBy(l), c.Local, c.Remote) > most {
		return nil, api.ErrOver
	}
	var told []api.Channel
	for _, other := range l {
		if other.Id < c.Id {
			told = append(told, other)
		}
	}
	told = append(told, c)
	for _, other := range l {
		if other.Id > c.Id {
			told = append(told, other)
		}
	}
	return apart(told), api.OK
}

// changeBy takes what is done with one from layer 9.
func changeBy(l []api.Channel, id uint64, do func(c api.Channel) (api.Channel, api.Errno)) ([]api.Channel, api.Errno) {
	c, e := getBy(l, id)
	if e != api.OK {
		return nil, e
	}
	c, e = do(oneApart(c))
	if e != api.OK {
		return nil, e
	}
	return with(l, c), api.OK
}

func closeBy(l []api.Channel, id uint64) ([]api.Channel, api.Errno) {
	return changeBy(l, id, channel.Close)
}

func pushBy(l []api.Channel, id, n uint64) ([]api.Channel, api.Errno) {
	return changeBy(l, id, func(c api.Channel) (api.Channel, api.Errno) { return channel.Push(c, n) })
}

func holdBy(l []api.Channel, id, hold, n uint64) ([]api.Channel, api.Errno) {
	if _, e := getBy(l, id); e != api.OK {
		return nil, e
	}
	if _, e := whereBy(l, hold); e == api.OK {
		return nil, api.ErrThere
	}
	return changeBy(l, id, func(c api.Channel) (api.Channel, api.Errno) { return channel.Hold(c, hold, n) })
}

func endBy(l []api.Channel, hold uint64, paid bool) ([]api.Channel, uint64, api.Errno) {
	id, e := whereBy(l, hold)
	if e != api.OK {
		return nil, 0, e
	}
	c, _ := getBy(l, id)
	told := oneApart(c)
	told.Holds = nil
	var n uint64
	for _, h := range c.Holds {
		if h.Id == hold {
			n = h.N
		} else {
			told.Holds = append(told.Holds, h)
		}
	}
	if paid {
		told.Remote += n
	} else {
		told.Local += n
	}
	return with(l, told), n, api.OK
}

// equalOne and equal are worked out apart from Same.
func equalOne(a, b api.Channel) bool {
	if a.Id != b.Id || a.Local != b.Local || a.Remote != b.Remote || a.Reserve != b.Reserve || a.Most != b.Most || a.Open != b.Open {
		return false
	}
	if len(a.Holds) != len(b.Holds) {
		return false
	}
	for i := range a.Holds {
		if a.Holds[i].Id != b.Holds[i].Id || a.Holds[i].N != b.Holds[i].N {
			return false
		}
	}
	return true
}

func equal(a, b []api.Channel) bool {
	if len(a) != len(b) {
		return false
	}
	for i := range a {
		if !equalOne(a[i], b[i]) {
			return false
		}
	}
	return true
}

// wantRow takes the call by its parts, as it is written out only where it is told.
func wantRow(t *testing.T, got []api.Channel, e api.Errno, want []api.Channel, wantE api.Errno, call string, handed ...any) {
	t.Helper()
	if !equal(got, want) || e != wantE {
		t.Errorf("%s%v = %v, %d; want %v, %d", call, handed, got, e, want, wantE)
	}
}

func wantGet(t *testing.T, l []api.Channel, id uint64, want api.Channel, wantE api.Errno) {
	t.Helper()
	if c, e := Get(l, id); !equalOne(c, want) || e != wantE {
		t.Errorf("Get(%v, %d) = %v, %d; want %v, %d", l, id, c, e, want, wantE)
	}
}

func wantWhere(t *testing.T, l []api.Channel, hold, want uint64, wantE api.Errno) {
	t.Helper()
	if id, e := Where(l, hold); id != want || e != wantE {
		t.Errorf("Where(%v, %d) = %d, %d; want %d, %d", l, hold, id, e, want, wantE)
	}
}

func wantOurs(t *testing.T, l []api.Channel, local, held uint64, wantE api.Errno) {
	t.Helper()
	if a, b, e := Ours(l); a != local || b != held || e != wantE {
		t.Errorf("Ours(%v) = %d, %d, %d; want %d, %d, %d", l, a, b, e, local, held, wantE)
	}
}

func wantOpen(t *testing.T, l []api.Channel, c api.Channel, want []api.Channel, wantE api.Errno) {
	t.Helper()
	got, e := Open(l, c)
	wantRow(t, got, e, want, wantE, "Open", l, c)
}

func wantClose(t *testing.T, l []api.Channel, id uint64, want []api.Channel, wantE api.Errno) {
	t.Helper()
	got, e := Close(l, id)
	wantRow(t, got, e, want, wantE, "Close", l, id)
}

func wantPush(t *testing.T, l []api.Channel, id, n uint64, want []api.Channel, wantE api.Errno) {
	t.Helper()
	got, e := Push(l, id, n)
	wantRow(t, got, e, want, wantE, "Push", l, id, n)
}

func wantHold(t *testing.T, l []api.Channel, id, hold, n uint64, want []api.Channel, wantE api.Errno) {
	t.Helper()
	got, e := Hold(l, id, hold, n)
	wantRow(t, got, e, want, wantE, "Hold", l, id, hold, n)
}

func wantEnd(t *testing.T, l []api.Channel, hold uint64, paid bool, want []api.Channel, n uint64, wantE api.Errno) {
	t.Helper()
	got, held, e := End(l, hold, paid)
	wantRow(t, got, e, want, wantE, "End", l, hold, paid)
	if held != n {
		t.Errorf("End(%v, %d, %v) tells that %d was held; want %d", l, hold, paid, held, n)
	}
}

// asked is what the calls are asked with.
type asked struct {
	ids, holds, amounts []uint64
	opened              []api.Channel
}

// holdAll holds each call against the chapter's words.
func holdAll(t *testing.T, l []api.Channel, a asked) {
	t.Helper()
	stays := apart(l)
	want := api.ErrArg
	if allMayBe(l) {
		want = api.OK
	}
	if e := Check(l); e != want {
		t.Errorf("Check(%v) = %d; want %d", l, e, want)
	}
	local, held, e := oursBy(l)
	wantOurs(t, l, local, held, e)
	for _, c := range a.opened {
		want, e := openBy(l, c)
		wantOpen(t, l, c, want, e)
	}
	for _, id := range a.ids {
		c, e := getBy(l, id)
		wantGet(t, l, id, c, e)
		want, e := closeBy(l, id)
		wantClose(t, l, id, want, e)
		for _, n := range a.amounts {
			want, e := pushBy(l, id, n)
			wantPush(t, l, id, n, want, e)
			for _, hold := range a.holds {
				want, e := holdBy(l, id, hold, n)
				wantHold(t, l, id, hold, n, want, e)
			}
		}
	}
	for _, hold := range a.holds {
		id, e := whereBy(l, hold)
		wantWhere(t, l, hold, id, e)
		for _, paid := range []bool{true, false} {
			want, n, e := endBy(l, hold, paid)
			wantEnd(t, l, hold, paid, want, n, e)
		}
	}
	if !equal(l, stays) {
		t.Errorf("what was handed in changed: %v; want %v", l, stays)
	}
}

// P10.1
func TestCheck(t *testing.T) {
	for _, l := range right() {
		if e := Check(l); e != api.OK || !allMayBe(l) {
			t.Errorf("Check(%v) = %d", l, e)
		}
	}
	for name, l := range wrong() {
		if e := Check(l); e != api.ErrArg || allMayBe(l) {
			t.Errorf("%s: Check(%v) = %d", name, l, e)
		}
	}
}

// P10.1: how many there may be.
func TestCheckHowMany(t *testing.T) {
	for n := range 3 * full {
		want := api.OK
		if n > full {
			want = api.ErrArg
		}
		if e := Check(bare(n)); e != want {
			t.Errorf("Check of %d channels = %d; want %d", n, e, want)
		}
		if e := Check(many(n)); e != want {
			t.Errorf("Check of %d channels with holds = %d; want %d", n, e, want)
		}
	}
}

// around are three holds of a channel, with the one of that Id at a place; those ahead of it and behind it no other channel has.
func around(i, place int, id uint64) []api.Hold {
	var l []api.Hold
	for p := range 3 {
		own := uint64(10*i + p)
		switch {
		case p < place:
			l = append(l, hold(1000+own, 1))
		case p == place:
			l = append(l, hold(id, 2))
		default:
			l = append(l, hold(9000+own, 3))
		}
	}
	return l
}

// P10.1: each pair of channels, with one Id, or with one hold's Id at each of their places.
func TestCheckEachPair(t *testing.T) {
	for i := range full {
		for j := range i {
			l := bare(full)
			l[i].Id = l[j].Id
			if e := Check(l); e != api.ErrArg {
				t.Errorf("Check, one Id at %d and %d = %d", j, i, e)
			}
			for places := range 9 {
				l := bare(full)
				l[i] = plain(uint64(i), 9, around(i, places%3, 5000)...)
				l[j] = plain(uint64(j), 9, around(j, places/3, 5001)...)
				if e := Check(l); e != api.OK {
					t.Errorf("Check(%v) = %d", l, e)
				}
				l[j].Holds[places/3].Id = 5000
				if e := Check(l); e != api.ErrArg {
					t.Errorf("Check(%v) = %d; want ErrArg", l, e)
				}
			}
		}
	}
}

// P10.1: all of all just at what may be, and more, by each part, of the first, a middle and the last channel.
func TestCheckAtEdges(t *testing.T) {
	for _, n := range []int{1, 2, 3, full} {
		for _, at := range []int{0, n / 2, n - 1} {
			for name, set := range map[string]func(c *api.Channel, n uint64){
				"Local":            func(c *api.Channel, n uint64) { c.Local = n },
				"Remote":           func(c *api.Channel, n uint64) { c.Remote = n },
				"Local, not open":  func(c *api.Channel, n uint64) { *c = closed(c.Id, n, 50, 0, 0) },
				"Remote, not open": func(c *api.Channel, n uint64) { *c = closed(c.Id, 50, n, 0, 0) },
				"a hold":           func(c *api.Channel, n uint64) { *c = plain(c.Id, 50, hold(77, n)) },
				"one of two holds": func(c *api.Channel, n uint64) { *c = plain(c.Id, 10, hold(77, n), hold(78, 40)) },
			} {
				l := many(n)
				set(&l[at], 1)
				edge := most - (allBy(l) - 1)
				for _, m := range []uint64{1, edge - 1, edge, edge + 1, edge + 2, most, most + 1, greatest} {
					l := many(n)
					set(&l[at], m)
					want := api.OK
					if m > edge {
						want = api.ErrArg
					}
					if e := Check(l); e != want {
						t.Errorf("%s of %d at %d: %d, where all are %d: Check = %d; want %d", name, n, at, m, allBy(l), e, want)
					}
				}
			}
		}
	}
}

// others are rows that each differ from the one handed in by one part.
func others(l []api.Channel) map[string][]api.Channel {
	m := map[string][]api.Channel{
		"one more":           append(apart(l), plain(greatest, 1)),
		"one more, all zero": append(apart(l), api.Channel{}),
		"one more ahead":     append(row(api.Channel{}), apart(l)...),
	}
	for i := range l {
		for name, do := range map[string]func(c *api.Channel){
			"Id":       func(c *api.Channel) { c.Id ^= 1 },
			"Id, high": func(c *api.Channel) { c.Id ^= 1 << 63 },
			"Local":    func(c *api.Channel) { c.Local++ },
			"Remote":   func(c *api.Channel) { c.Remote++ },
			"Reserve":  func(c *api.Channel) { c.Reserve++ },
			"Most":     func(c *api.Channel) { c.Most++ },
			"Open":     func(c *api.Channel) { c.Open = !c.Open },
			"a hold":   func(c *api.Channel) { c.Holds = append(c.Holds, api.Hold{}) },
		} {
			other := apart(l)
			do(&other[i])
			m[fmt.Sprint(name, " of ", i)] = other
		}
		m[fmt.Sprint("no ", i)] = slices.Delete(apart(l), i, i+1)
		for k := range l[i].Holds {
			id, n, none := apart(l), apart(l), apart(l)
			id[i].Holds[k].Id++
			n[i].Holds[k].N++
			none[i].Holds = slices.Delete(none[i].Holds, k, k+1)
			m[fmt.Sprint("Id of hold ", k, " of ", i)] = id
			m[fmt.Sprint("N of hold ", k, " of ", i)] = n
			m[fmt.Sprint("no hold ", k, " of ", i)] = none
		}
		if i > 0 && !equalOne(l[i], l[i-1]) {
			about := apart(l)
			about[i], about[i-1] = about[i-1], about[i]
			m[fmt.Sprint("changed about at ", i)] = about
		}
	}
	return m
}

// P10.1: also of channels that may not be, as Same tells no error.
func TestSame(t *testing.T) {
	rows := right()
	for _, l := range wrong() {
		rows = append(rows, l)
	}
	for i, l := range rows {
		if !Same(l, l) || !Same(l, apart(l)) || !Same(apart(l), l) {
			t.Errorf("%v are not the same as themselves", l)
		}
		for _, m := range rows[:i] {
			if Same(l, m) != equal(l, m) || Same(m, l) != equal(l, m) {
				t.Errorf("Same(%v, %v) is wrong", l, m)
			}
		}
	}
	for _, l := range [][]api.Channel{nil, some(), many(1), many(7), wrong()["one hold in two"], wrong()["Ids fall"], {{}, {}}} {
		for name, other := range others(l) {
			if Same(l, other) || Same(other, l) {
				t.Errorf("%s: Same(%v, %v) = true", name, l, other)
			}
		}
	}
}

// R3: no channels are the same, nil or empty, and so are channels without holds.
func TestSameWithout(t *testing.T) {
	if !Same(nil, nil) || !Same(nil, row()) || !Same(row(), nil) || !Same(row(), some()[:0]) {
		t.Error("no channels are not the same as none")
	}
	a, b := row(plain(1, 2), closed(2, 3, 4, 5, 6)), row(plain(1, 2), closed(2, 3, 4, 5, 6))
	for i := range a {
		a[i].Holds, b[i].Holds = nil, []api.Hold{}
	}
	if !Same(a, b) || !Same(b, a) {
		t.Errorf("%v are not the same as with empty lists", a)
	}
}

// P10.1
func TestGet(t *testing.T) {
	for _, x := range []struct {
		l    []api.Channel
		id   uint64
		want api.Channel
		e    api.Errno
	}{
		{nil, 0, api.Channel{}, api.ErrNone}, {row(), 1, api.Channel{}, api.ErrNone}, {nil, greatest, api.Channel{}, api.ErrNone},
		{row(open(7, 1, 2, 3, 4)), 7, open(7, 1, 2, 3, 4), api.OK}, {row(closed(7, 1, 2, 3, 4)), 7, closed(7, 1, 2, 3, 4), api.OK},
		{row(plain(7, 8)), 6, api.Channel{}, api.ErrNone}, {row(plain(7, 8)), 8, api.Channel{}, api.ErrNone}, {row(plain(7, 8)), 0, api.Channel{}, api.ErrNone},
		{row(plain(7, 8)), greatest, api.Channel{}, api.ErrNone}, {row(api.Channel{}), 0, api.Channel{}, api.OK}, {row(api.Channel{}), 1, api.Channel{}, api.ErrNone},
		{some(), 0, some()[0], api.OK}, {some(), 4, some()[1], api.OK}, {some(), 5, some()[2], api.OK}, {some(), 9, some()[3], api.OK}, {some(), greatest, some()[4], api.OK},
		{some(), 1, api.Channel{}, api.ErrNone}, {some(), 3, api.Channel{}, api.ErrNone}, {some(), 6, api.Channel{}, api.ErrNone}, {some(), 10, api.Channel{}, api.ErrNone},
		{some(), greatest - 1, api.Channel{}, api.ErrNone}, {some(), 40, api.Channel{}, api.ErrNone}, {some(), 100, api.Channel{}, api.ErrNone},
	} {
		wantGet(t, x.l, x.id, x.want, x.e)
	}
}

// P10.1
func TestWhere(t *testing.T) {
	for _, x := range []struct {
		l        []api.Channel
		hold, id uint64
		e        api.Errno
	}{
		{nil, 0, 0, api.ErrNone}, {row(), 1, 0, api.ErrNone}, {nil, greatest, 0, api.ErrNone}, {row(plain(7, 8)), 7, 0, api.ErrNone}, {row(plain(7, 8)), 0, 0, api.ErrNone},
		{row(plain(7, 8, hold(5, 1))), 5, 7, api.OK}, {row(plain(0, 8, hold(0, 1))), 0, 0, api.OK}, {row(plain(greatest, 8, hold(greatest, 1))), greatest, greatest, api.OK},
		{row(plain(7, 8, hold(5, 1))), 4, 0, api.ErrNone}, {row(plain(7, 8, hold(5, 1))), 6, 0, api.ErrNone}, {row(plain(7, 8, hold(5, 1))), 1, 0, api.ErrNone},
		{row(plain(7, 8, hold(8, 1)), plain(8, 8, hold(7, 1))), 8, 7, api.OK}, {row(plain(7, 8, hold(8, 1)), plain(8, 8, hold(7, 1))), 7, 8, api.OK},
		{some(), 3, 0, api.OK}, {some(), 40, 0, api.OK}, {some(), 0, 9, api.OK}, {some(), 8, 9, api.OK}, {some(), greatest, 9, api.OK}, {some(), 20, greatest, api.OK},
		{some(), 4, 0, api.ErrNone}, {some(), 5, 0, api.ErrNone}, {some(), 9, 0, api.ErrNone}, {some(), 10, 0, api.ErrNone}, {some(), 1, 0, api.ErrNone}, {some(), greatest - 1, 0, api.ErrNone},
	} {
		wantWhere(t, x.l, x.hold, x.id, x.e)
	}
}

// P10.1
func TestOurs(t *testing.T) {
	for _, x := range []struct {
		l           []api.Channel
		local, held uint64
	}{
		{nil, 0, 0}, {row(), 0, 0}, {row(api.Channel{}), 0, 0}, {bare(full), 0, 0},
		{row(open(1, 5, 6, 7, 8)), 5, 0}, {row(closed(1, 5, 6, 7, 8)), 0, 0}, {row(open(1, 5, 6, 7, 8, hold(1, 3))), 5, 3}, {row(open(1, 0, 6, 7, 8, hold(1, 3), hold(2, 5))), 0, 8},
		{row(plain(1, 5), closed(2, 70, 0, 0, 0), plain(3, 600)), 605, 0}, {row(closed(1, 5, 0, 0, 0), plain(2, 70), closed(3, 600, 0, 0, 0)), 70, 0},
		{row(plain(1, 5, hold(1, 1000)), plain(2, 70, hold(2, 20000)), plain(3, 600, hold(3, 300000), hold(4, 5))), 675, 321005},
		{some(), 169, 57}, {each(full, 5), 0, 0}, {bursting(1), 500, 253}, {many(4), 406, 10},
		// All that may be, by each part.
		{row(plain(1, most)), most, 0}, {row(plain(1, most-1), plain(2, 1)), most, 0}, {row(plain(1, most-1), closed(2, 1, 0, 0, 0)), most - 1, 0}, {row(closed(1, most, 0, 0, 0)), 0, 0},
		{row(open(1, 0, most, 0, 0)), 0, 0}, {row(plain(1, 0, hold(1, most))), 0, most}, {row(plain(1, 0, hold(1, most/2)), plain(2, 0, hold(2, most/2))), 0, most},
		{row(plain(1, most/2, hold(1, most/4)), plain(2, most/4)), most/2 + most/4, most / 4},
		// Neither Remote, nor Reserve, nor Most is ours.
		{row(open(1, 1, most-1, most, most), open(2, 0, 0, most, most)), 1, 0},
	} {
		wantOurs(t, x.l, x.local, x.held, api.OK)
	}
	l := each(full, most/full)
	for i := range l {
		l[i].Open = true
		wantOurs(t, l, uint64(i+1)*(most/full), 0, api.OK)
	}
}

// P10.1 to P10.3: each channel and each hold of as many as there may be.
func TestEachPlace(t *testing.T) {
	for _, l := range [][]api.Channel{many(full), many(full - 1), bursting(full), bursting(3)} {
		for _, c := range l {
			wantGet(t, l, c.Id, c, api.OK)
			for _, id := range []uint64{c.Id - 1, c.Id + 1} {
				wantGet(t, l, id, api.Channel{}, api.ErrNone)
			}
			for _, h := range c.Holds {
				wantWhere(t, l, h.Id, c.Id, api.OK)
				paid := h.Id%2 == 0
				want, n, e := endBy(l, h.Id, paid)
				if n != h.N || e != api.OK {
					t.Fatalf("hold %v: %d, %d", h, n, e)
				}
				wantEnd(t, l, h.Id, paid, want, n, api.OK)
			}
		}
	}
}

// closely asks with each number that the channels have, and those beside them.
func closely(l []api.Channel) asked {
	a := asked{
		ids: []uint64{0, 1, greatest}, holds: []uint64{0, 1, greatest}, amounts: []uint64{0, 1, 40, 90, 91, most, most + 1},
		opened: []api.Channel{{}, plain(1, 5), open(greatest, 0, most, 0, 0), closed(1, 5, 0, 0, 0)},
	}
	for i, c := range l {
		if i > 2 && i < len(l)-2 && i != len(l)/2 {
			continue
		}
		a.ids = append(a.ids, c.Id, c.Id+1, c.Id-1)
		for _, id := range []uint64{c.Id, c.Id + 1} {
			a.opened = append(a.opened, open(id, 3, 4, 5, 6), closed(id, 3, 4, 5, 6), plain(id, 5, hold(50000, 1)), plain(id, most-allBy(l)), plain(id, most-allBy(l)+1))
		}
		for k, h := range c.Holds {
			if k < 2 || k == len(c.Holds)-1 {
				a.holds = append(a.holds, h.Id, h.Id+1)
			}
		}
	}
	return a
}

// P10.1 to P10.3: each call, of the numbers that the channels have, and those beside them.
func TestByTheWords(t *testing.T) {
	rows := [][]api.Channel{
		nil, {}, some(), many(1), many(2), many(7), many(full - 1), many(full), bare(full), bursting(2), bursting(full), each(full, most/full),
		{plain(1, most)}, {plain(1, 0, hold(1, most-3)), plain(2, 1), closed(3, 1, 1, 0, 0)},
	}
	for _, name := range []string{"Ids fall", "one Id twice, apart", "one too many", "one hold in two", "two of most", "four of most, and 5", "a hold above Most, of 3 at 1"} {
		l := wrong()[name]
		if l == nil {
			t.Fatalf("no row is named %s", name)
		}
		rows = append(rows, l)
	}
	for _, l := range rows {
		holdAll(t, l, closely(l))
	}
}

// P10.1 to P10.3: all rows of up to three of few channels, those that may not be among them.
func TestAllSmallRows(t *testing.T) {
	few := row(
		open(0, 10, 10, 0, 10, hold(5, 1)), open(1, 9, 3, 2, 8), api.Channel{Id: 1}, open(2, 9, 3, 2, 8, hold(4, 1)), open(2, 5, 5, 0, 3, hold(6, 2)), closed(2, 4, 4, 0, 0),
		open(3, 6, 0, 3, 7, hold(4, 2), hold(6, 1)), open(3, 1, most-20, 0, 9), closed(3, most, 0, 0, 0), open(greatest, 3, 3, 1, 9, hold(6, 1)),
		open(2, most+1, 0, 0, 0), closed(3, 1, 1, 1, 1, hold(5, 1)),
	)
	a := asked{
		ids: []uint64{0, 1, 2, 3, greatest}, holds: []uint64{4, 5, 6, 7}, amounts: []uint64{0, 1, 2, 6, most, most + 1},
		opened: row(open(1, 2, 3, 4, 5), open(2, 0, 0, 0, 0), open(7, 20, 0, 0, 0), open(8, 0, 0, 0, 0), open(9, most, 0, 0, 0), open(9, most+1, 0, 0, 0), closed(9, 0, 0, 0, 0), open(2, 9, 9, 9, 9, hold(9, 1))),
	}
	rows := [][]api.Channel{nil}
	for range 3 {
		var longer [][]api.Channel
		for _, l := range rows {
			holdAll(t, l, a)
			for _, c := range few {
				longer = append(longer, append(slices.Clone(l), c))
			}
		}
		rows = longer
	}
	for _, l := range rows {
		holdAll(t, l, a)
	}
}

// P10.2
func TestOpen(t *testing.T) {
	a, b, c := open(2, 20, 1, 2, 9, hold(70, 3)), closed(5, 50, 0, 0, 0), plain(8, 80)
	three := row(a, b, c)
	for _, x := range []struct {
		l    []api.Channel
		c    api.Channel
		want []api.Channel
		e    api.Errno
	}{
		// None, one, and at the front, in the middle, and at the end.
		{nil, open(5, 1, 2, 3, 4), row(open(5, 1, 2, 3, 4)), api.OK}, {row(), open(0, 0, 0, 0, 0), row(open(0, 0, 0, 0, 0)), api.OK}, {nil, open(greatest, 0, most, most, most), row(open(greatest, 0, most, most, most)), api.OK},
		{row(a), plain(1, 7), row(plain(1, 7), a), api.OK}, {row(a), plain(3, 7), row(a, plain(3, 7)), api.OK},
		{three, plain(0, 7), row(plain(0, 7), a, b, c), api.OK}, {three, plain(1, 7), row(plain(1, 7), a, b, c), api.OK},
		{three, plain(3, 7), row(a, plain(3, 7), b, c), api.OK}, {three, plain(4, 7), row(a, plain(4, 7), b, c), api.OK},
		{three, plain(6, 7), row(a, b, plain(6, 7), c), api.OK}, {three, plain(9, 7), row(a, b, c, plain(9, 7)), api.OK}, {three, plain(greatest, 7), row(a, b, c, plain(greatest, 7)), api.OK},
		// A hold's number is no channel's, and Local may be below Reserve, and Most.
		{three, plain(70, 7), row(a, b, c, plain(70, 7)), api.OK}, {three, open(9, 1, 0, 5, 0), row(a, b, c, open(9, 1, 0, 5, 0)), api.OK},
		// Nothing in it, and empty holds.
		{three, open(9, 0, 0, 0, 0), row(a, b, c, open(9, 0, 0, 0, 0)), api.OK}, {nil, api.Channel{Id: 9, Open: true, Holds: []api.Hold{}}, row(open(9, 0, 0, 0, 0)), api.OK},
		// It is there, also where one is that is not open.
		{three, plain(2, 7), nil, api.ErrThere}, {three, plain(5, 7), nil, api.ErrThere}, {three, plain(8, 7), nil, api.ErrThere}, {three, plain(8, 80), nil, api.ErrThere}, {row(api.Channel{}), plain(0, 0), nil, api.ErrThere},
		// All of all is just what may be, or one more; 154 is what three have.
		{nil, plain(1, most), row(plain(1, most)), api.OK}, {three, plain(9, most-154), row(a, b, c, plain(9, most-154)), api.OK}, {three, plain(9, most-153), nil, api.ErrOver},
		{three, open(9, 0, most-154, 0, 0), row(a, b, c, open(9, 0, most-154, 0, 0)), api.OK}, {three, open(9, 0, most-153, 0, 0), nil, api.ErrOver},
		{three, open(9, 100, most-254, 0, 0), row(a, b, c, open(9, 100, most-254, 0, 0)), api.OK}, {three, open(9, 100, most-253, 0, 0), nil, api.ErrOver}, {three, open(0, 100, most-253, 0, 0), nil, api.ErrOver},
		{three, plain(9, most), nil, api.ErrOver}, {row(plain(1, most)), plain(2, 0), row(plain(1, most), plain(2, 0)), api.OK}, {row(plain(1, most)), plain(2, 1), nil, api.ErrOver}, {row(plain(1, most)), plain(2, most), nil, api.ErrOver},
		{row(closed(1, most, 0, 0, 0)), plain(2, 1), nil, api.ErrOver}, {row(plain(1, 0, hold(1, most))), plain(2, 1), nil, api.ErrOver}, {row(open(1, 0, most, 0, 0)), plain(0, 1), nil, api.ErrOver},
		// Reserve and Most are no money.
		{row(open(1, most, 0, most, most)), open(2, 0, 0, most, most), row(open(1, most, 0, most, most), open(2, 0, 0, most, most)), api.OK},
		// It may not be, is not open, or has holds.
		{three, plain(9, most+1), nil, api.ErrArg}, {three, open(9, most, 1, 0, 0), nil, api.ErrArg}, {nil, open(9, 0, 0, most+1, 0), nil, api.ErrArg}, {nil, open(9, 0, 0, 0, most+1), nil, api.ErrArg},
		{three, closed(9, 7, 0, 0, 0), nil, api.ErrArg}, {nil, api.Channel{}, nil, api.ErrArg}, {nil, closed(9, 7, 0, 0, 0, hold(1, 1)), nil, api.ErrArg},
		{three, plain(9, 7, hold(1, 1)), nil, api.ErrArg}, {nil, plain(9, 7, hold(1, 1)), nil, api.ErrArg}, {nil, bursting(1)[0], nil, api.ErrArg}, {nil, plain(9, 7, hold(1, 0)), nil, api.ErrArg},
	} {
		wantOpen(t, x.l, x.c, x.want, x.e)
	}
	for name, c := range wrongOnes() {
		for _, id := range []uint64{2, 5, 8, 9} {
			c.Id = id
			if got, e := Open(three, c); e != api.ErrArg || got != nil {
				t.Errorf("Open of a channel with %s: %v, %d", name, got, e)
			}
		}
	}
}

// P10.2: up to MaxChannels, from above, from below, and mixed.
func TestOpenUpToMaxChannels(t *testing.T) {
	for name, idOf := range map[string]func(i uint64) uint64{
		"rising": func(i uint64) uint64 { return i }, "falling": func(i uint64) uint64 { return greatest - i }, "mixed": func(i uint64) uint64 { return i * 13 % full },
	} {
		var l []api.Channel
		for i := range uint64(full) {
			c := open(idOf(i), i, 2*i, 3*i, 4*i)
			want, _ := openBy(l, c)
			got, e := Open(l, c)
			wantRow(t, got, e, want, api.OK, name, l, c)
			l = got
		}
		if len(l) != full || Check(l) != api.OK {
			t.Fatalf("%s: got %v", name, l)
		}
		wantOpen(t, l, plain(1<<40, 1), nil, api.ErrFull)
		wantOpen(t, l, plain(idOf(7), 1), nil, api.ErrThere)
		wantOpen(t, l[:full-1], plain(l[full-1].Id, 1), append(apart(l[:full-1]), plain(l[full-1].Id, 1)), api.OK)
		// One that is closed is still there, and makes no room.
		less, e := Close(l, idOf(3))
		if e != api.OK {
			t.Fatalf("%s: Close tells %d", name, e)
		}
		wantOpen(t, less, plain(1<<40, 1), nil, api.ErrFull)
		wantOpen(t, less, plain(idOf(3), 1), nil, api.ErrThere)
	}
}

// P10.2: of the errors that apply the one that the chapter names first.
func TestOpenErrorsInOrder(t *testing.T) {
	// Each row is of so many as may be, or one fewer, and of so much as may be.
	rich, fewer := each(full, most/full), append(each(full-2, most/full), plain(50, most/full*2))
	poor, wrong := bare(full), each(full, most/full+1)
	for _, x := range []struct {
		name string
		l    []api.Channel
		c    api.Channel
		e    api.Errno
	}{
		{"channels may not be, there, full, over", wrong, plain(3, 1), api.ErrArg},
		{"channels may not be, and it may not be", wrong, plain(3, most+1), api.ErrArg},
		{"too many, there", bare(full + 1), plain(3, 1), api.ErrArg},
		{"too many, not there", bare(full + 1), plain(99, 1), api.ErrArg},
		{"too many, over", each(full+1, most), plain(99, 1), api.ErrArg},
		{"may not be, there, full, over", rich, plain(3, most+1), api.ErrArg},
		{"not open, there, full, over", rich, closed(3, 1, 0, 0, 0), api.ErrArg},
		{"has holds, there, full, over", rich, plain(3, 1, hold(1, 1)), api.ErrArg},
		{"may not be, full", poor, plain(99, most+1), api.ErrArg},
		{"not open, full", poor, closed(99, 1, 0, 0, 0), api.ErrArg},
		{"has holds, full", poor, plain(99, 1, hold(1, 1)), api.ErrArg},
		{"may not be, over", fewer, open(99, most, 1, 0, 0), api.ErrArg},
		{"not open, over", fewer, closed(99, 1, 0, 0, 0), api.ErrArg},
		{"has holds, over", fewer, plain(99, 1, hold(1, 1)), api.ErrArg},
		{"not open, there", bare(5), closed(3, 1, 0, 0, 0), api.ErrArg},
		{"has holds, there", bare(5), plain(3, 1, hold(1, 1)), api.ErrArg},
		{"there, full, over", rich, plain(3, 1), api.ErrThere},
		{"there, full", poor, plain(3, 1), api.ErrThere},
		{"there, over", fewer, plain(3, 1), api.ErrThere},
		{"there, over by much", fewer, plain(50, most), api.ErrThere},
		{"full, over", rich, plain(99, 1), api.ErrFull},
		{"full, over by much", rich, plain(99, most), api.ErrFull},
		{"full", poor, plain(99, 1), api.ErrFull},
		{"full, of nothing", rich, plain(99, 0), api.ErrFull},
		{"over", fewer, plain(99, 1), api.ErrOver},
		{"over by what is theirs", fewer, open(99, 0, 1, 0, 0), api.ErrOver},
		{"nothing", fewer, plain(99, 0), api.OK},
	} {
		got, e := Open(x.l, x.c)
		if e != x.e || e != api.OK && got != nil {
			t.Errorf("%s: Open(%v, %v) = %v, %d; want %d", x.name, x.l, x.c, got, e, x.e)
		}
	}
}

// P10.2
func TestClose(t *testing.T) {
	a, b, c, d := open(2, 20, 1, 2, 9), closed(5, 50, 0, 0, 0), plain(8, 80), plain(9, 1, hold(8, 4))
	l := row(a, b, c, d)
	for _, x := range []struct {
		l    []api.Channel
		id   uint64
		want []api.Channel
		e    api.Errno
	}{
		{row(a), 2, row(closed(2, 20, 1, 2, 9)), api.OK}, {row(open(0, 0, 0, 0, 0)), 0, row(api.Channel{}), api.OK},
		{row(a, c), 2, row(closed(2, 20, 1, 2, 9), c), api.OK}, {row(a, c), 8, row(a, closed(8, 80, 0, 0, most)), api.OK},
		{l, 2, row(closed(2, 20, 1, 2, 9), b, c, d), api.OK}, {l, 8, row(a, b, closed(8, 80, 0, 0, most), d), api.OK},
		{nil, 0, nil, api.ErrNone}, {row(), 5, nil, api.ErrNone}, {l, 0, nil, api.ErrNone}, {l, 3, nil, api.ErrNone}, {l, 10, nil, api.ErrNone}, {l, greatest, nil, api.ErrNone},
		{l, 5, nil, api.ErrClosed}, {row(api.Channel{}), 0, nil, api.ErrClosed}, {row(b), 5, nil, api.ErrClosed},
		{l, 9, nil, api.ErrState}, {bursting(3), 6, nil, api.ErrState},
	} {
		wantClose(t, x.l, x.id, x.want, x.e)
	}
}

// P10.2
func TestPush(t *testing.T) {
	a, b, c, d := open(2, 20, 100, 2, 9), closed(5, 50, 60, 0, 0), open(8, 80, 7, 0, 0), open(9, 1, 30, 0, 5, hold(8, 4))
	l := row(a, b, c, d)
	for _, x := range []struct {
		l     []api.Channel
		id, n uint64
		want  []api.Channel
		e     api.Errno
	}{
		{row(a), 2, 40, row(open(2, 60, 60, 2, 9)), api.OK}, {row(a), 2, 100, row(open(2, 120, 0, 2, 9)), api.OK}, {row(a), 2, 101, nil, api.ErrPoor}, {row(a), 2, 0, row(a), api.OK},
		{l, 2, 1, row(open(2, 21, 99, 2, 9), b, c, d), api.OK}, {l, 8, 7, row(a, b, open(8, 87, 0, 0, 0), d), api.OK}, {l, 9, 10, row(a, b, c, open(9, 11, 20, 0, 5, hold(8, 4))), api.OK},
		// What the others have is not to be had.
		{l, 8, 8, nil, api.ErrPoor}, {l, 9, 31, nil, api.ErrPoor}, {l, 2, 101, nil, api.ErrPoor}, {l, 2, most, nil, api.ErrPoor}, {row(open(1, 0, most-1, 0, 0), open(2, 1, 0, 0, 0)), 2, 1, nil, api.ErrPoor},
		{row(open(1, 0, most, 0, 0), open(2, 0, 0, 0, 0)), 1, most, row(open(1, most, 0, 0, 0), open(2, 0, 0, 0, 0)), api.OK},
		// One that is not there goes ahead of an amount that may not be, that ahead of one that is not open.
		{nil, 0, 0, nil, api.ErrNone}, {nil, 2, most + 1, nil, api.ErrNone}, {l, 3, 1, nil, api.ErrNone}, {l, 3, most + 1, nil, api.ErrNone}, {l, greatest, greatest, nil, api.ErrNone}, {l, 0, 0, nil, api.ErrNone},
		{l, 2, most + 1, nil, api.ErrArg}, {l, 9, greatest, nil, api.ErrArg}, {l, 5, most + 1, nil, api.ErrArg}, {l, 5, greatest, nil, api.ErrArg},
		{l, 5, most, nil, api.ErrClosed}, {l, 5, 61, nil, api.ErrClosed}, {l, 5, 60, nil, api.ErrClosed}, {l, 5, 0, nil, api.ErrClosed},
	} {
		wantPush(t, x.l, x.id, x.n, x.want, x.e)
	}
}

// P10.3
func TestHold(t *testing.T) {
	a, b, c, d := open(2, 100, 1, 10, 50, hold(4, 5), hold(8, 5)), closed(5, 50, 60, 0, 90), open(8, 80, 7, 0, 20), open(9, 30, 0, 0, 90, hold(6, 10))
	l := row(a, b, c, d)
	for _, x := range []struct {
		l           []api.Channel
		id, hold, n uint64
		want        []api.Channel
		e           api.Errno
	}{
		// Of one, of the first, a middle and the last, at each place of its holds.
		{row(plain(3, 10)), 3, 0, 10, row(plain(3, 0, hold(0, 10))), api.OK}, {row(plain(3, 10)), 3, greatest, 1, row(plain(3, 9, hold(greatest, 1))), api.OK}, {row(plain(3, 10)), 3, 3, 4, row(plain(3, 6, hold(3, 4))), api.OK},
		{l, 2, 3, 7, row(open(2, 93, 1, 10, 50, hold(3, 7), hold(4, 5), hold(8, 5)), b, c, d), api.OK}, {l, 2, 5, 7, row(open(2, 93, 1, 10, 50, hold(4, 5), hold(5, 7), hold(8, 5)), b, c, d), api.OK},
		{l, 2, 9, 40, row(open(2, 60, 1, 10, 50, hold(4, 5), hold(8, 5), hold(9, 40)), b, c, d), api.OK}, {l, 8, 9, 20, row(a, b, open(8, 60, 7, 0, 20, hold(9, 20)), d), api.OK},
		{l, 8, 0, 1, row(a, b, open(8, 79, 7, 0, 20, hold(0, 1)), d), api.OK}, {l, 9, 7, 30, row(a, b, c, open(9, 0, 0, 0, 90, hold(6, 10), hold(7, 30))), api.OK}, {l, 9, 1, 30, row(a, b, c, open(9, 0, 0, 0, 90, hold(1, 30), hold(6, 10))), api.OK},
		// There is none of that number.
		{nil, 0, 0, 1, nil, api.ErrNone}, {l, 3, 7, 1, nil, api.ErrNone}, {l, 0, 7, 1, nil, api.ErrNone}, {l, 10, 7, 1, nil, api.ErrNone}, {l, greatest, 7, 1, nil, api.ErrNone}, {l, 4, 7, 1, nil, api.ErrNone},
		// There is such a hold: in the same one, in one ahead of it, and in one behind it.
		{l, 2, 4, 1, nil, api.ErrThere}, {l, 2, 8, 1, nil, api.ErrThere}, {l, 9, 6, 1, nil, api.ErrThere}, {l, 8, 4, 1, nil, api.ErrThere}, {l, 8, 8, 1, nil, api.ErrThere}, {l, 9, 4, 1, nil, api.ErrThere}, {l, 9, 8, 1, nil, api.ErrThere},
		{l, 2, 6, 1, nil, api.ErrThere}, {l, 8, 6, 1, nil, api.ErrThere}, {l, 8, 4, 5, nil, api.ErrThere},
		// It is too much for that one, though others have it.
		{l, 2, 7, 41, nil, api.ErrOver}, {l, 8, 7, 21, nil, api.ErrOver}, {l, 9, 7, 31, nil, api.ErrPoor}, {l, 2, 7, 91, nil, api.ErrPoor}, {l, 8, 7, 81, nil, api.ErrPoor}, {l, 5, 7, 1, nil, api.ErrClosed}, {l, 5, 7, most, nil, api.ErrClosed},
		// No amount that may be held.
		{l, 2, 7, 0, nil, api.ErrArg}, {l, 2, 7, most + 1, nil, api.ErrArg}, {l, 9, 7, greatest, nil, api.ErrArg}, {l, 5, 7, 0, nil, api.ErrArg}, {l, 5, 7, most + 1, nil, api.ErrArg},
	} {
		wantHold(t, x.l, x.id, x.hold, x.n, x.want, x.e)
	}
}

// P10.3: of the errors that apply the one that the chapter names first.
func TestHoldErrorsInOrder(t *testing.T) {
	busy := bursting(2)
	// The third is not open, the fourth is poor, and the fifth has all that Most lets it have.
	l := append(busy, closed(20, 9, 9, 0, 9), open(30, 5, 0, 5, 9), open(40, 50, 0, 0, 9, hold(7777, 9)))
	there, own := busy[0].Holds[5].Id, busy[1].Holds[5].Id
	none := uint64(5555)
	// One Id twice, so that no channels may be, whatever is asked of them.
	wrong := append(slices.Clone(l), l[4])
	for _, x := range []struct {
		name        string
		l           []api.Channel
		id, hold, n uint64
		e           api.Errno
	}{
		{"channels may not be, no channel, there, 0", wrong, 99, there, 0, api.ErrArg},
		{"channels may not be, no channel", wrong, 99, none, 1, api.ErrArg},
		{"channels may not be, there", wrong, 30, there, 1, api.ErrArg},
		{"channels may not be, not open", wrong, 20, none, 1, api.ErrArg},
		{"no channel, there, 0", l, 99, there, 0, api.ErrNone},
		{"no channel, there", l, 99, there, 1, api.ErrNone},
		{"no channel, 0", l, 99, none, 0, api.ErrNone},
		{"no channel, too much", l, 99, none, most + 1, api.ErrNone},
		{"there, 0", l, 30, there, 0, api.ErrThere},
		{"there, too much", l, 30, there, most + 1, api.ErrThere},
		{"there, greatest, not open", l, 20, there, greatest, api.ErrThere},
		{"there, not open", l, 20, there, 1, api.ErrThere},
		{"there, MaxHolds", l, 6, there, 1, api.ErrThere},
		{"there in itself, MaxHolds", l, 6, own, 1, api.ErrThere},
		{"there in itself, 0", l, 6, own, 0, api.ErrThere},
		{"there in itself, too much", l, 40, 7777, most + 1, api.ErrThere},
		{"there, poor", l, 30, there, 1, api.ErrThere},
		{"there, over", l, 40, there, 1, api.ErrThere},
		{"there behind it, MaxHolds", l, 3, 7777, 1, api.ErrThere},
		{"0, not open", l, 20, none, 0, api.ErrArg},
		{"too much, not open", l, 20, none, most + 1, api.ErrArg},
		{"0, MaxHolds", l, 6, none, 0, api.ErrArg},
		{"too much, poor", l, 30, none, most + 1, api.ErrArg},
		{"0, over", l, 40, none, 0, api.ErrArg},
		{"not open, poor, over", l, 20, none, most, api.ErrClosed},
		{"MaxHolds, poor, over", l, 6, none, most, api.ErrFull},
		{"MaxHolds", l, 6, none, 1, api.ErrFull},
		{"poor, over", l, 30, none, 10, api.ErrPoor},
		{"poor", l, 30, none, 1, api.ErrPoor},
		{"over", l, 40, none, 1, api.ErrOver},
	} {
		got, e := Hold(x.l, x.id, x.hold, x.n)
		if e != x.e || got != nil {
			t.Errorf("%s: Hold(%d, %d, %d) = %v, %d; want %d", x.name, x.id, x.hold, x.n, got, e, x.e)
		}
	}
}

// P10.3
func TestEnd(t *testing.T) {
	a, b, c, d := open(2, 100, 1, 10, 50, hold(4, 5), hold(5, 6), hold(8, 7)), closed(5, 50, 60, 0, 90), open(8, 80, 7, 0, 20, hold(0, 9)), open(9, 30, 3, 0, 90, hold(6, 10), hold(greatest, 20))
	l := row(a, b, c, d)
	for _, x := range []struct {
		l            []api.Channel
		hold         uint64
		theirs, ours []api.Channel
		n            uint64
		e            api.Errno
	}{
		{row(plain(3, 10, hold(0, 1))), 0, row(open(3, 10, 1, 0, most)), row(plain(3, 11)), 1, api.OK},
		{row(plain(3, 0, hold(7, most))), 7, row(open(3, 0, most, 0, most)), row(plain(3, most)), most, api.OK},
		{l, 4, row(open(2, 100, 6, 10, 50, hold(5, 6), hold(8, 7)), b, c, d), row(open(2, 105, 1, 10, 50, hold(5, 6), hold(8, 7)), b, c, d), 5, api.OK},
		{l, 5, row(open(2, 100, 7, 10, 50, hold(4, 5), hold(8, 7)), b, c, d), row(open(2, 106, 1, 10, 50, hold(4, 5), hold(8, 7)), b, c, d), 6, api.OK},
		{l, 8, row(open(2, 100, 8, 10, 50, hold(4, 5), hold(5, 6)), b, c, d), row(open(2, 107, 1, 10, 50, hold(4, 5), hold(5, 6)), b, c, d), 7, api.OK},
		{l, 0, row(a, b, open(8, 80, 16, 0, 20), d), row(a, b, open(8, 89, 7, 0, 20), d), 9, api.OK},
		{l, 6, row(a, b, c, open(9, 30, 13, 0, 90, hold(greatest, 20))), row(a, b, c, open(9, 40, 3, 0, 90, hold(greatest, 20))), 10, api.OK},
		{l, greatest, row(a, b, c, open(9, 30, 23, 0, 90, hold(6, 10))), row(a, b, c, open(9, 50, 3, 0, 90, hold(6, 10))), 20, api.OK},
		// There is none; 2 and 9 are channels.
		{l, 2, nil, nil, 0, api.ErrNone}, {l, 9, nil, nil, 0, api.ErrNone}, {l, 3, nil, nil, 0, api.ErrNone}, {l, 7, nil, nil, 0, api.ErrNone}, {l, greatest - 1, nil, nil, 0, api.ErrNone},
		{nil, 0, nil, nil, 0, api.ErrNone}, {row(), 1, nil, nil, 0, api.ErrNone}, {bare(full), 0, nil, nil, 0, api.ErrNone}, {row(b), 5, nil, nil, 0, api.ErrNone},
	} {
		wantEnd(t, x.l, x.hold, true, x.theirs, x.n, x.e)
		wantEnd(t, x.l, x.hold, false, x.ours, x.n, x.e)
	}
}

// P10.3: what has ended is no more, and may be held anew, by another channel too.
func TestEndedIsNoMore(t *testing.T) {
	for _, paid := range []bool{true, false} {
		l := row(plain(1, 50), plain(2, 50))
		for i := range uint64(6) {
			id := 1 + i%2
			held, e := Hold(l, id, 7, 5)
			if e != api.OK {
				t.Fatalf("Hold tells %d", e)
			}
			wantWhere(t, held, 7, id, api.OK)
			wantHold(t, held, 3-id, 7, 1, nil, api.ErrThere)
			ended, n, e := End(held, 7, paid)
			if n != 5 || e != api.OK {
				t.Fatalf("End tells %d, %d", n, e)
			}
			wantWhere(t, ended, 7, 0, api.ErrNone)
			wantEnd(t, ended, 7, paid, nil, 0, api.ErrNone)
			wantEnd(t, ended, 7, !paid, nil, 0, api.ErrNone)
			l = ended
		}
		if paid {
			wantOurs(t, l, 70, 0, api.OK)
		} else {
			wantOurs(t, l, 100, 0, api.OK)
		}
	}
}

// R1: channels that may not be are told ahead of all else, and all else is zero.
func TestWrongChannels(t *testing.T) {
	for name, l := range wrong() {
		stays := apart(l)
		wantOurs(t, l, 0, 0, api.ErrArg)
		for _, id := range []uint64{0, 1, 2, 3, 9, 50000, greatest} {
			wantGet(t, l, id, api.Channel{}, api.ErrArg)
			wantWhere(t, l, id, 0, api.ErrArg)
			wantClose(t, l, id, nil, api.ErrArg)
			wantEnd(t, l, id, true, nil, 0, api.ErrArg)
			wantEnd(t, l, id, false, nil, 0, api.ErrArg)
			wantOpen(t, l, plain(id, 1), nil, api.ErrArg)
			wantOpen(t, l, plain(id, most+1), nil, api.ErrArg)
			wantOpen(t, l, api.Channel{Id: id}, nil, api.ErrArg)
			for _, n := range []uint64{0, 1, most, most + 1} {
				wantPush(t, l, id, n, nil, api.ErrArg)
				for _, hold := range []uint64{0, 5, 7, 50000} {
					wantHold(t, l, id, hold, n, nil, api.ErrArg)
				}
			}
		}
		if !equal(l, stays) {
			t.Errorf("%s: what was handed in changed: %v; want %v", name, l, stays)
		}
	}
}

// step is one thing that is done with channels.
type step struct {
	name        string
	id, hold, n uint64
}

func (s step) do(l []api.Channel) ([]api.Channel, api.Errno) {
	var e api.Errno
	switch s.name {
	case "open":
		l, e = Open(l, open(s.id, s.n, s.n/2, 1, s.n))
	case "close":
		l, e = Close(l, s.id)
	case "push":
		l, e = Push(l, s.id, s.n)
	case "hold":
		l, e = Hold(l, s.id, s.hold, s.n)
	default:
		l, _, e = End(l, s.hold, s.name == "settle")
	}
	return l, e
}

// by is what the chapter's words tell of a step.
func (s step) by(l []api.Channel) ([]api.Channel, api.Errno) {
	switch s.name {
	case "open":
		return openBy(l, open(s.id, s.n, s.n/2, 1, s.n))
	case "close":
		return closeBy(l, s.id)
	case "push":
		return pushBy(l, s.id, s.n)
	case "hold":
		return holdBy(l, s.id, s.hold, s.n)
	}
	l, _, e := endBy(l, s.hold, s.name == "settle")
	return l, e
}

// wantStep holds channels after a step against those ahead of it: each hold is in one channel, no other channel has changed, and all of all is as much as it was, but by what is opened.
func wantStep(t *testing.T, s step, ahead, after []api.Channel) {
	t.Helper()
	if !allMayBe(after) {
		t.Errorf("%v of %v: %v may not be", s, ahead, after)
	}
	all, touched := allBy(ahead), s.id
	switch s.name {
	case "open":
		all += s.n + s.n/2
		ahead = append(apart(ahead), api.Channel{Id: s.id})
	case "settle", "fail":
		touched, _ = whereBy(ahead, s.hold)
	}
	if allBy(after) != all || len(after) != len(ahead) {
		t.Errorf("%v of %v: %v", s, ahead, after)
	}
	for _, c := range ahead {
		if other, e := getBy(after, c.Id); e != api.OK || c.Id != touched && !equalOne(c, other) {
			t.Errorf("%v: %v became %v, %d", s, c, other, e)
		}
	}
	homes := map[uint64]int{}
	for _, c := range after {
		for _, h := range c.Holds {
			homes[h.Id]++
			wantWhere(t, after, h.Id, c.Id, api.OK)
		}
	}
	for id, n := range homes {
		if n != 1 {
			t.Errorf("%v of %v: hold %d is in %d channels", s, ahead, id, n)
		}
	}
	if s.name == "hold" {
		back, n, e := End(after, s.hold, false)
		wantRow(t, back, e, ahead, api.OK, "End behind Hold", ahead, s)
		if n != s.n || !Same(back, ahead) {
			t.Errorf("%v of %v: what failed is %d", s, ahead, n)
		}
	}
}

// P10.4: all ways of at most four steps.
func TestWhatFollows(t *testing.T) {
	steps := []step{{"open", 2, 0, 6}, {"open", 5, 0, 4}, {"close", 1, 0, 0}, {"close", 2, 0, 0}, {"push", 1, 0, 2}, {"push", 2, 0, 1}}
	for _, h := range []uint64{3, 6} {
		steps = append(steps, step{"hold", 1, h, 1}, step{"hold", 2, h, 3}, step{"hold", 3, h, 2}, step{"settle", 0, h, 0}, step{"fail", 0, h, 0})
	}
	rows := [][]api.Channel{
		nil, {open(1, 9, 3, 2, 8)}, {open(1, 6, 0, 3, 7, hold(5, 2)), open(3, 5, 5, 0, 9)},
		{open(1, 9, 3, 2, 8, hold(6, 1)), open(2, 8, 8, 0, 8, hold(3, 2)), closed(3, 1, 1, 1, 1)},
	}
	ways := 0
	for range 4 {
		var later [][]api.Channel
		for _, l := range rows {
			for _, s := range steps {
				after, e := s.do(l)
				if e == api.OK {
					wantStep(t, s, l, after)
					later = append(later, after)
				} else if after != nil {
					t.Errorf("%v of %v: %v beside %d", s, l, after, e)
				}
			}
		}
		rows = later
		ways += len(rows)
	}
	if ways < 5000 {
		t.Errorf("only %d ways went on", ways)
	}
}

// P10.4: long ways with great amounts, from a seed that stays; what channels should be is kept beside them by the chapter's words.
func TestLongWays(t *testing.T) {
	names := []string{"hold", "hold", "hold", "hold", "settle", "fail", "push", "open", "close"}
	for seed := range int64(20) {
		r := rand.New(rand.NewSource(seed))
		var l []api.Channel
		done := map[string]int{}
		for range 1500 {
			s := step{names[r.Intn(len(names))], uint64(r.Intn(40)), uint64(r.Intn(90)), 1 + uint64(r.Int63n(most/40))}
			// Few are closed, so that there are many to hold with.
			if s.name == "close" && r.Intn(8) > 0 {
				continue
			}
			want, wantE := s.by(l)
			after, e := s.do(l)
			wantRow(t, after, e, want, wantE, s.name, l, s)
			if e == api.OK {
				wantStep(t, s, l, after)
				l = after
				done[s.name]++
			}
		}
		if len(l) < 10 || done["hold"] < 50 || done["settle"] < 20 || done["fail"] < 20 || done["close"] == 0 {
			t.Errorf("seed %d: only %v was done", seed, done)
		}
	}
}

// The chapter's example.
func TestOnlyOneHasIt(t *testing.T) {
	l, e := Hold(row(plain(1, 10), plain(2, 10)), 1, 5, 4)
	wantRow(t, l, e, row(plain(1, 6, hold(5, 4)), plain(2, 10)), api.OK, "Hold")
	wantHold(t, l, 2, 5, 4, nil, api.ErrThere)
	wantHold(t, l, 2, 6, 4, row(plain(1, 6, hold(5, 4)), plain(2, 6, hold(6, 4))), api.OK)
}

// laid is the row cut out of a longer one, each list of holds cut out of a longer one too; and the whole of it.
func laid(l []api.Channel) ([]api.Channel, []api.Channel) {
	room := append(row(plain(77, 77)), apart(l)...)
	room = append(room, plain(88, 88, hold(86, 86)), plain(89, 89), plain(90, 90))
	for i, c := range room {
		holds := append([]api.Hold{hold(66, 66)}, c.Holds...)
		holds = append(holds, hold(67, 67), hold(68, 68), hold(69, 69))
		room[i].Holds = holds[1 : 1+len(c.Holds)]
	}
	return room[1 : 1+len(l)], room
}

// whole is a copy of all that there is up to the end of the memory.
func whole(l []api.Channel) []api.Channel {
	told := apart(l[:cap(l)])
	for i, c := range l[:cap(l)] {
		told[i].Holds = append([]api.Hold(nil), c.Holds[:cap(c.Holds)]...)
	}
	return told
}

// wipe writes over all channels and holds, and those behind their ends.
func wipe(l []api.Channel) {
	l = l[:cap(l)]
	for i := range l {
		wipeHolds(l[i].Holds)
		l[i] = plain(99, 99)
	}
}

func wipeHolds(l []api.Hold) {
	l = l[:cap(l)]
	for i := range l {
		l[i] = hold(99, 99)
	}
}

// calls are those that answer channels, where each is right of some().
func calls() map[string]func(l []api.Channel) []api.Channel {
	first := func(l []api.Channel, _ api.Errno) []api.Channel { return l }
	one := func(c api.Channel, _ api.Errno) []api.Channel { return row(c) }
	ended := func(l []api.Channel, _ uint64, _ api.Errno) []api.Channel { return l }
	m := map[string]func(l []api.Channel) []api.Channel{
		"Open in the middle":  func(l []api.Channel) []api.Channel { return first(Open(l, open(2, 1, 2, 3, 4))) },
		"Open at the front":   func(l []api.Channel) []api.Channel { return first(Open(l[1:], open(2, 1, 2, 3, 4))) },
		"Open at the end":     func(l []api.Channel) []api.Channel { return first(Open(l[:4], open(20, 1, 2, 3, 4))) },
		"Open the only one":   func(l []api.Channel) []api.Channel { return first(Open(l[:0], open(20, 1, 2, 3, 4))) },
		"Close":               func(l []api.Channel) []api.Channel { return first(Close(l, 4)) },
		"Close the only one":  func(l []api.Channel) []api.Channel { return first(Close(l[1:2], 4)) },
		"Push to the first":   func(l []api.Channel) []api.Channel { return first(Push(l, 0, 5)) },
		"Push to the last":    func(l []api.Channel) []api.Channel { return first(Push(l, greatest, 5)) },
		"Push nothing":        func(l []api.Channel) []api.Channel { return first(Push(l, 9, 0)) },
		"Push without holds":  func(l []api.Channel) []api.Channel { return first(Push(l, 4, 3)) },
		"Hold by the first":   func(l []api.Channel) []api.Channel { return first(Hold(l, 0, 5, 6)) },
		"Hold without others": func(l []api.Channel) []api.Channel { return first(Hold(l, 4, 5, 2)) },
		"Hold by the fourth":  func(l []api.Channel) []api.Channel { return first(Hold(l, 9, 5, 6)) },
		"Hold at the end":     func(l []api.Channel) []api.Channel { return first(Hold(l, 0, 50, 6)) },
		"End the only hold":   func(l []api.Channel) []api.Channel { return ended(End(l, 20, true)) },
	}
	for _, c := range some() {
		m[fmt.Sprint("Get ", c.Id)] = func(l []api.Channel) []api.Channel { return one(Get(l, c.Id)) }
		for _, h := range c.Holds {
			m[fmt.Sprint("Settle ", h.Id)] = func(l []api.Channel) []api.Channel { return ended(End(l, h.Id, true)) }
			m[fmt.Sprint("Fail ", h.Id)] = func(l []api.Channel) []api.Channel { return ended(End(l, h.Id, false)) }
		}
	}
	return m
}

// R2: what is told is new, no two of its lists share memory, and what is handed in stays as it was, also behind its ends.
func TestToldIsNew(t *testing.T) {
	for name, call := range calls() {
		l, room := laid(some())
		kept := whole(room)
		told, again := call(l), call(l)
		want := apart(told)
		if len(told) == 0 || !equal(told, again) || !equal(whole(room), kept) {
			t.Fatalf("%s: %v, and then %v; %v was handed in", name, told, again, room)
		}
		for i := range told {
			wipeHolds(told[i].Holds)
			for k := i + 1; k < len(told); k++ {
				if !equalOne(told[k], want[k]) {
					t.Errorf("%s: the holds at %d and %d share memory", name, i, k)
				}
			}
		}
		wipe(told)
		if !equal(again, want) || !equal(whole(room), kept) {
			t.Errorf("%s: what was told shares memory: %v, %v", name, again, room)
		}
		wipe(room)
		if !equal(again, want) {
			t.Errorf("%s: what was told hangs on what was handed in: %v", name, again)
		}
	}
}

// R2: the channel that is opened, too.
func TestOpenedIsNew(t *testing.T) {
	for _, l := range [][]api.Channel{nil, some(), bare(3)} {
		room := []api.Hold{hold(66, 66), hold(67, 67), hold(68, 68)}
		kept := slices.Clone(room)
		c := plain(7, 5)
		c.Holds = room[1:1]
		told, e := Open(l, c)
		if e != api.OK {
			t.Fatalf("Open(%v, %v): %d", l, c, e)
		}
		for i := range told {
			told[i].Holds = append(told[i].Holds, hold(uint64(i), 1))
		}
		wipe(told)
		if !slices.Equal(room, kept) {
			t.Errorf("what was handed in changed: %v", room)
		}
	}
}

// R2: what does nothing with channels, and what tells an error, changes nothing.
func TestHandedInStays(t *testing.T) {
	rows := right()
	for _, l := range wrong() {
		rows = append(rows, l)
	}
	for _, kept := range rows {
		l, room := laid(kept)
		was := whole(room)
		Check(l)
		Same(l, kept)
		Ours(l)
		for _, n := range []uint64{0, 3, 5, 9, 77, most + 1, greatest} {
			Get(l, n)
			Where(l, n)
			Close(l, n)
			Open(l, plain(n, 5))
			Open(l, plain(n, most))
			Open(l, closed(n, 5, 0, 0, 0))
			End(l, n, true)
			End(l, n, false)
			for _, id := range []uint64{3, 9, greatest} {
				Push(l, id, n)
				Hold(l, id, n, 1)
				Hold(l, id, 500, n)
			}
		}
		if !equal(whole(room), was) {
			t.Errorf("what was handed in changed: %v; want %v", room, was)
		}
	}
}

// FuzzLedger holds all calls against the chapter's words; each channel is made of six octets, and as many holds of two as the fifth tells.
func FuzzLedger(f *testing.F) {
	f.Add([]byte{1, 90, 20, 5, 0, 80, 4, 10, 9, 90, 20, 5, 1, 80, 7, 10}, uint64(0), uint64(7), uint64(5))
	f.Add([]byte{1, 90, 20, 5, 2, 80, 4, 10, 7, 3, 2, 9, 0, 5, 1, 80, 7, 10}, uint64(most), uint64(7), uint64(1))
	f.Add([]byte{2, 0, 0, 0, 0, 0, 1, 0, 0, 0, 0, 0}, uint64(most-5), uint64(2), uint64(most))
	f.Add([]byte{2, 1, 1, 1, 128, 1, 3, 5, 5, 0, 0, 9}, uint64(5), uint64(3), uint64(most+1))
	f.Fuzz(func(t *testing.T, b []byte, local, id, n uint64) {
		var l []api.Channel
		for ; len(b) >= 6; b = b[6:] {
			c := open(uint64(b[0]), uint64(b[1]), uint64(b[2]), uint64(b[3]), uint64(b[5]))
			c.Open = b[4] < 128
			for k := b[4] % 4; k > 0 && len(b) >= 8; k-- {
				c.Holds = append(c.Holds, hold(uint64(b[6]), uint64(b[7])))
				b = b[2:]
			}
			l = append(l, c)
		}
		if len(l) > 0 {
			l[len(l)-1].Local += local
		}
		a := asked{ids: []uint64{id, id % 256}, holds: []uint64{n % 256, id % 256}, amounts: []uint64{n, n % 256, local}, opened: row(plain(id, n), open(id%256, 1, n%256, 0, 0), closed(id, n, 0, 0, 0))}
		for i, c := range l {
			if i < 3 {
				a.ids = append(a.ids, c.Id)
			}
			for _, h := range c.Holds {
				a.holds = append(a.holds, h.Id)
			}
		}
		a.holds = a.holds[:min(len(a.holds), 6)]
		holdAll(t, l, a)
	})
}
