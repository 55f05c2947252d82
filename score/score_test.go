package score

import (
	"fmt"
	"math"
	"math/big"
	"math/rand"
	"slices"
	"testing"

	"damson/api"
	"damson/channel"
	"damson/ledger"
)

// The limits and the greatest number are written out, so that the tests do not lean on what they hold the program against.
const (
	full      = 32
	fullHolds = 64
	most      = 1 << 62
	greatest  = math.MaxUint64
	// huge and tiny are the greatest and the least number of float64 above 0, small is the least one that has all its digits.
	huge  = 0x1.fffffffffffffp1023
	tiny  = 0x1p-1074
	small = 0x1p-1022
)

// Scores that can't be written as constants.
var (
	none  = math.NaN()
	inf   = math.Inf(1)
	minus = math.Copysign(0, -1)
)

// nones are scores that are no numbers, of other octets each.
func nones() []float64 {
	var l []float64
	for _, bits := range []uint64{0x7FF8000000000000, 0x7FF8000000000001, 0x7FF0000000000001, 0x7FFFFFFFFFFFFFFF, 0xFFF8000000000000, 0xFFF0000000000001, 0xFFFFFFFFFFFFFFFF} {
		l = append(l, math.Float64frombits(bits))
	}
	return l
}

// rising are scores that rise, where each row holds those that are the same.
func rising() [][]float64 {
	return [][]float64{
		append(nones(), none),
		{-inf}, {-huge}, {-0x1.ffffffffffffep1023}, {-1e300}, {-0x1p64}, {-0x1p53}, {-2}, {-0x1.0000000000001p0}, {-1}, {-0x1.fffffffffffffp-1}, {-0.1}, {-small}, {-2 * tiny}, {-tiny},
		{minus, 0},
		{tiny}, {2 * tiny}, {0x0.fffffffffffffp-1022}, {small}, {0x1p-53}, {0.1}, {0.30000000000000004}, {0x1.fffffffffffffp-1}, {1}, {0x1.0000000000001p0}, {1.5}, {2}, {3},
		{0x1p53 - 1}, {0x1p53}, {0x1p53 + 2}, {0x1p62}, {0x1p63}, {0x1p64}, {1e300}, {0x1.ffffffffffffep1023}, {huge}, {inf},
	}
}

// edges are those of rising, in one row.
func edges() []float64 { return slices.Concat(rising()...) }

func row(l ...api.Channel) []api.Channel { return l }

func hold(id, n uint64) api.Hold { return api.Hold{Id: id, N: n} }

func open(id, local, remote, reserve, atMost uint64, holds ...api.Hold) api.Channel {
	return api.Channel{Id: id, Local: local, Remote: remote, Reserve: reserve, Most: atMost, Holds: holds, Open: true}
}

// closed is one that is not open.
func closed(id, local, remote, reserve, atMost uint64, holds ...api.Hold) api.Channel {
	c := open(id, local, remote, reserve, atMost, holds...)
	c.Open = false
	return c
}

// plain is one of which all that is ours can be held.
func plain(id, local, remote uint64, holds ...api.Hold) api.Channel {
	return open(id, local, remote, 0, most, holds...)
}

func weights(l ...api.Weight) []api.Weight { return l }

func weight(id uint64, w float64) api.Weight { return api.Weight{Id: id, W: w} }

func ids(l ...uint64) []uint64 { return l }

// some are channels with and without holds, one that is not open, one without room, and one of which all is 0.
func some() []api.Channel {
	return row(
		open(0, 100, 50, 10, 70, hold(3, 10), hold(40, 20)),
		open(4, 9, 8, 7, 6),
		closed(5, 70, 30, 5, 90),
		open(6, 4, 30, 5, 90),
		open(7, 0, 0, 0, 90),
		open(9, 60, 0, 0, 50, hold(0, 5), hold(8, 6), hold(greatest, 7)),
		open(greatest, 12, 11, 1, 20, hold(20, 9)),
	)
}

// many are n channels of every third number from 3 on, of several rooms and parts; each seventh one is not open.
func many(n int) []api.Channel {
	l := make([]api.Channel, n)
	for i := range l {
		l[i] = open(uint64(3*i+3), uint64(20+i*37%90), uint64(5+i*11%70), uint64(i%4), uint64(40+i*29%60))
		l[i].Open = i%7 != 6
		for k := range i % 4 {
			if l[i].Open {
				l[i].Holds = append(l[i].Holds, hold(uint64(1000*k+2*(n-i)), uint64(k+1)))
			}
		}
	}
	return l
}

// bursting are n channels that have MaxHolds holds each, but for the last, which has one fewer.
func bursting(n int) []api.Channel {
	l := make([]api.Channel, n)
	for i := range l {
		l[i] = open(uint64(3*i+3), 500, 50, 10, 900)
		for k := range fullHolds {
			l[i].Holds = append(l[i].Holds, hold(uint64(100*k+i), uint64(1+(i+k)%7)))
		}
	}
	l[n-1].Holds = l[n-1].Holds[:fullHolds-1]
	return l
}

// alike are n channels that differ in nothing but their Ids.
func alike(n int, local, remote uint64) []api.Channel {
	l := make([]api.Channel, n)
	for i := range l {
		l[i] = plain(uint64(i), local, remote)
	}
	return l
}

// idsOfAll are the Ids of all, in their order.
func idsOfAll(l []api.Channel) []uint64 {
	var told []uint64
	for _, c := range l {
		told = append(told, c.Id)
	}
	return told
}

// ones are channels that may be, by layer 9.
func ones() []api.Channel {
	l := slices.Concat(some(), many(8), bursting(2))
	return append(l,
		api.Channel{}, api.Channel{Open: true}, plain(1, 1, 0), plain(1, 0, 1), plain(1, 0, 0, hold(1, 1)), closed(1, 1, 0, 0, 9), closed(1, 0, most, 0, 0),
		plain(1, most, 0), plain(1, 0, most), plain(1, most-1, 1), plain(1, 1, most-1), plain(1, most/2, most/2), plain(1, 0, 0, hold(1, most)), plain(1, 1, 0, hold(1, most-1)),
		open(1, most, 0, most, most), open(1, most, 0, most-1, most), open(1, most, 0, 0, 0), open(1, most, 0, 0, 1), open(1, most, 0, 1, most-2),
		plain(1, 1<<53-1, 0), plain(1, 1<<53, 0), plain(1, 1<<53+1, 0), plain(1, 1<<53+2, 0), plain(1, 1<<53+3, 1<<53), plain(1, 1<<54+1, 1<<54-1), plain(1, 1, 1<<53), plain(1, 1<<60+129, 1<<60-127),
		plain(1, 1, 2), plain(1, 1, 9), plain(1, 7, 3), plain(1, 12345678901, 98765432109),
	)
}

// wrongOnes are channels that may not be, by layer 9.
func wrongOnes() map[string]api.Channel {
	long := bursting(2)[0]
	long.Holds = append(long.Holds, hold(greatest, 1))
	return map[string]api.Channel{
		"Local above MaxMoney":     {Local: most + 1, Most: most, Open: true},
		"greatest Local":           {Local: greatest, Most: most, Open: true},
		"Remote above MaxMoney":    {Local: 5, Remote: most + 1, Most: 9, Open: true},
		"greatest Remote":          {Local: 5, Remote: greatest, Most: 9, Open: true},
		"Reserve above MaxMoney":   {Local: 5, Reserve: most + 1, Most: 9, Open: true},
		"Most above MaxMoney":      {Local: 5, Most: most + 1, Open: true},
		"greatest Most":            {Local: 5, Most: greatest, Open: true},
		"all above MaxMoney":       plain(0, most, 1),
		"all above, by a hold":     plain(0, most, 0, hold(50000, 1)),
		"Local goes around":        plain(0, greatest, 1),
		"a hold of nothing":        plain(0, 9, 9, hold(50000, 0)),
		"a hold above Most":        open(0, 9, 9, 0, 9, hold(50000, 10)),
		"a hold above MaxMoney":    plain(0, 0, 0, hold(50000, most+1)),
		"holds go around":          plain(0, 0, 0, hold(50000, greatest), hold(50001, 2)),
		"Ids of holds fall":        plain(0, 9, 9, hold(50001, 1), hold(50000, 1)),
		"one hold twice":           plain(0, 9, 9, hold(50000, 1), hold(50000, 1)),
		"not open, with a hold":    closed(0, 9, 9, 0, 9, hold(50000, 1)),
		"not open, and too much":   closed(0, most, 1, 0, 0),
		"too many holds":           long,
		"much too many holds":      plain(0, 0, 0, make([]api.Hold, 5000)...),
		"not open, too many holds": closed(0, 9, 9, 0, 900, long.Holds...),
	}
}

// wrong are channels that may not be, by layer 10: by one of them, or together.
func wrong() map[string][]api.Channel {
	m := map[string][]api.Channel{
		"Ids fall":                    {plain(2, 5, 0), plain(1, 5, 0)},
		"Ids fall to 0":               {plain(greatest, 5, 0), plain(0, 5, 0)},
		"Ids fall at the end":         {plain(1, 5, 0), plain(2, 5, 0), plain(4, 5, 0), plain(3, 5, 0)},
		"Ids fall, not open":          {closed(2, 1, 1, 0, 0), closed(1, 1, 1, 0, 0)},
		"one Id twice":                {plain(2, 5, 0), plain(2, 6, 0)},
		"one Id twice, one not open":  {plain(2, 5, 0), closed(2, 5, 0, 0, 0)},
		"one Id twice, apart":         {plain(2, 5, 0), plain(3, 5, 0), plain(2, 5, 0)},
		"all zero twice":              {{}, {}},
		"one too many":                alike(full+1, 5, 5),
		"one too many, not open":      append(alike(full, 5, 5), closed(greatest, 0, 0, 0, 0)),
		"one too many of nothing":     alike(full+1, 0, 0),
		"much too many":               alike(900, 5, 5),
		"one hold in two":             {plain(1, 9, 0, hold(5, 1)), plain(2, 9, 0, hold(5, 1))},
		"one hold in two, another N":  {plain(1, 9, 0, hold(5, 1)), plain(2, 9, 0, hold(5, 2))},
		"hold 0 in two":               {plain(1, 9, 0, hold(0, 1)), plain(2, 9, 0, hold(0, 1))},
		"one hold in two, apart":      {plain(1, 9, 0, hold(5, 1)), plain(2, 9, 0), plain(3, 9, 0, hold(5, 1))},
		"Local and Local":             {plain(1, most, 0), plain(2, 1, 0)},
		"Remote and Local":            {plain(1, 0, most), plain(2, 1, 0)},
		"a hold and Local":            {plain(1, 0, 0, hold(5, most)), plain(2, 1, 0)},
		"too much, one not open":      {closed(1, most, 0, 0, 0), plain(2, 1, 0)},
		"too much, neither open":      {closed(1, most, 0, 0, 0), closed(2, 0, 1, 0, 0)},
		"four of most are 0":          alike(4, most, 0),
		"MaxChannels, each bit more":  alike(full, most/full+1, 0),
		"five of a half, together":    alike(5, most/2, 0),
		"one too many, and too much":  alike(full+1, most, 0),
		"one Id twice, and too much":  {plain(2, most, 0), plain(2, most, 0)},
		"one hold twice, and greater": {plain(1, 9, 0, hold(5, 1)), plain(2, most, 0, hold(5, 1))},
	}
	for name, c := range wrongOnes() {
		m[name] = row(c)
		for _, n := range []int{3, full} {
			for _, at := range []int{0, n / 2, n - 1} {
				l := many(n)
				c.Id = l[at].Id
				l[at] = c
				m[fmt.Sprintf("%s, of %d at %d", name, n, at)] = l
			}
		}
	}
	return m
}

// apart has memory of its own.
func apart(l []api.Channel) []api.Channel {
	var told []api.Channel
	for _, c := range l {
		c.Holds = append([]api.Hold(nil), c.Holds...)
		told = append(told, c)
	}
	return told
}

// allBy, roomBy, mayBe and allMayBe are as layers 9 and 10 tell.
func allBy(c api.Channel) uint64 {
	all, _ := channel.All(c)
	return all
}

func roomBy(c api.Channel) uint64 {
	room, _ := channel.Room(c)
	return room
}

func mayBe(c api.Channel) bool { return channel.Check(c) == api.OK }

func allMayBe(l []api.Channel) bool { return ledger.Check(l) == api.OK }

// placeBy is where a score stands among all scores, as a whole number.
func placeBy(f float64) int64 {
	bits := int64(math.Float64bits(f))
	size := bits & math.MaxInt64
	switch {
	case size > 0x7FF0000000000000:
		return math.MinInt64
	case bits < 0:
		return -size
	}
	return size
}

func exact(f float64) *big.Rat { return new(big.Rat).SetFloat64(f) }

func rounded(r *big.Rat) float64 {
	f, _ := r.Float64()
	return f
}

func asFloat(n uint64) float64 { return rounded(new(big.Rat).SetInt(new(big.Int).SetUint64(n))) }

// lessBy, partBy and timesBy are one step each, worked out exactly, and then rounded; the first number of lessBy, and the second one of partBy, is never below 0, nor an infinity.
func lessBy(a, b float64) float64 {
	switch {
	case math.IsNaN(b):
		return none
	case math.IsInf(b, 0):
		return -b
	}
	return rounded(exact(a).Sub(exact(a), exact(b)))
}

func partBy(a, b float64) float64 {
	switch {
	case math.IsNaN(a) || a == 0 && b == 0:
		return none
	case b == 0 || math.IsInf(a, 0):
		return math.Copysign(inf, a)
	}
	return rounded(exact(a).Quo(exact(a), exact(b)))
}

func timesBy(a, b float64) float64 {
	infinite := math.IsInf(a, 0) || math.IsInf(b, 0)
	switch {
	case math.IsNaN(a) || math.IsNaN(b) || infinite && (a == 0 || b == 0):
		return none
	case infinite && (a < 0) == (b < 0):
		return inf
	case infinite:
		return -inf
	}
	return rounded(exact(a).Mul(exact(a), exact(b)))
}

// scoreBy is, in the chapter's words, the score of a channel that may be.
func scoreBy(c api.Channel, w, n float64) float64 {
	return timesBy(w, partBy(lessBy(asFloat(roomBy(c)), n), asFloat(allBy(c))))
}

func weighBy(l []api.Weight, id uint64) float64 {
	for _, w := range l {
		if w.Id == id {
			return w.W
		}
	}
	return 1
}

// orderBy takes the greatest score, again and again; of the same score the lesser Id.
func orderBy(l []api.Channel, w []api.Weight, n uint64) ([]uint64, api.Errno) {
	if !allMayBe(l) {
		return nil, api.ErrArg
	}
	places := map[uint64]int64{}
	for _, c := range l {
		if room := roomBy(c); c.Open && room >= n && room != 0 {
			places[c.Id] = placeBy(scoreBy(c, weighBy(w, c.Id), asFloat(n)))
		}
	}
	var told []uint64
	for len(places) > 0 {
		best, found := uint64(0), false
		for id, place := range places {
			if !found || place > places[best] || place == places[best] && id < best {
				best, found = id, true
			}
		}
		told = append(told, best)
		delete(places, best)
	}
	return told, api.OK
}

// wantLess holds two scores against each other, both ways.
func wantLess(t *testing.T, a, b float64, below, above bool) {
	t.Helper()
	if got := Less(a, b); got != below {
		t.Errorf("Less(%v, %v) = %v; want %v", a, b, got, below)
	}
	if got := Less(b, a); got != above {
		t.Errorf("Less(%v, %v) = %v; want %v", b, a, got, above)
	}
}

// wantOne takes 0 and -0 for the same, and so all that are no numbers; beside an error it takes 0 alone.
func wantOne(t *testing.T, c api.Channel, w, n, want float64, wantE api.Errno) {
	t.Helper()
	got, e := One(c, w, n)
	if e != wantE || placeBy(got) != placeBy(want) || e != api.OK && math.Float64bits(got) != 0 {
		t.Errorf("One(%v, %v, %v) = %v, %d; want %v, %d", c, w, n, got, e, want, wantE)
	}
}

// wantOrder asks for the first one too.
func wantOrder(t *testing.T, l []api.Channel, w []api.Weight, n uint64, want []uint64, wantE api.Errno) {
	t.Helper()
	got, e := Order(l, w, n)
	if e != wantE || !slices.Equal(got, want) || e != api.OK && got != nil {
		t.Errorf("Order(%v, %v, %d) = %v, %d; want %v, %d", l, w, n, got, e, want, wantE)
	}
	var first uint64
	switch {
	case wantE == api.OK && len(want) == 0:
		wantE = api.ErrNone
	case wantE == api.OK:
		first = want[0]
	}
	if id, e := First(l, w, n); id != first || e != wantE {
		t.Errorf("First(%v, %v, %d) = %d, %d; want %d, %d", l, w, n, id, e, first, wantE)
	}
}

// orderAll holds Order against the chapter's words, and against what follows from them.
func orderAll(t *testing.T, l []api.Channel, w []api.Weight, n uint64) {
	t.Helper()
	want, e := orderBy(l, w, n)
	wantOrder(t, l, w, n, want, e)
	if got, e := Order(l, w, n); e == api.OK {
		wantFollows(t, l, w, n, got)
	}
}

// wantFollows holds what follows: who is in the order can hold n, who is not can't; scores fall, and what is no number comes last.
func wantFollows(t *testing.T, l []api.Channel, w []api.Weight, n uint64, told []uint64) {
	t.Helper()
	for _, c := range l {
		if n != 0 {
			_, e := channel.Hold(c, unused(c), n)
			if is := slices.Contains(told, c.Id); is != (e == api.OK) {
				t.Errorf("channel %v in the order of %v, %v, %d: %v; Hold tells %d", c, l, w, n, is, e)
			}
		}
	}
	var ahead float64
	for i, id := range told {
		at := slices.IndexFunc(l, func(c api.Channel) bool { return c.Id == id })
		if at < 0 || !l[at].Open || roomBy(l[at]) == 0 {
			t.Fatalf("Order(%v, %v, %d) = %v: %d has no room", l, w, n, told, id)
		}
		score, _ := One(l[at], Weigh(w, id), float64(n))
		if i > 0 && (math.IsNaN(ahead) && !math.IsNaN(score) || ahead < score || placeBy(ahead) == placeBy(score) && told[i-1] >= id) {
			t.Errorf("Order(%v, %v, %d) = %v: %v comes ahead of %v", l, w, n, told, ahead, score)
		}
		ahead = score
	}
}

// unused is a number that no hold of the channel has.
func unused(c api.Channel) uint64 {
	id := uint64(0)
	for _, h := range c.Holds {
		if h.Id == id {
			id++
		}
	}
	return id
}

// P11.1: each against each.
func TestLess(t *testing.T) {
	l := rising()
	for i := range l {
		for k := range l {
			for _, a := range l[i] {
				for _, b := range l[k] {
					wantLess(t, a, b, i < k, k < i)
				}
			}
		}
	}
	for _, x := range []struct {
		a, b float64
		is   bool
	}{
		{1, 2, true}, {2, 1, false}, {1, 1, false}, {-2, -1, true}, {-1, -2, false}, {-1, 1, true}, {0.1, 0.2, true},
		{minus, 0, false}, {0, minus, false}, {0, 0, false}, {minus, minus, false}, {-tiny, minus, true}, {minus, tiny, true},
		{inf, inf, false}, {-inf, -inf, false}, {-inf, inf, true}, {inf, -inf, false}, {huge, inf, true}, {-inf, -huge, true}, {inf, huge, false},
		{none, none, false}, {none, -inf, true}, {-inf, none, false}, {none, inf, true}, {inf, none, false}, {none, 0, true}, {0, none, false}, {none, minus, true}, {none, -huge, true}, {huge, none, false},
	} {
		if got := Less(x.a, x.b); got != x.is {
			t.Errorf("Less(%v, %v) = %v; want %v", x.a, x.b, got, x.is)
		}
	}
}

// P11.1: of all kinds of octets, those next to each other among them.
func TestLessOfAllKinds(t *testing.T) {
	r := rand.New(rand.NewSource(1))
	l := edges()
	for range 400 {
		f := math.Float64frombits(r.Uint64())
		l = append(l, f, -f, math.Nextafter(f, inf), math.Nextafter(f, -inf), r.NormFloat64())
	}
	for _, a := range l {
		for _, b := range l {
			wantLess(t, a, b, placeBy(a) < placeBy(b), placeBy(b) < placeBy(a))
		}
	}
}

// P11.1
func TestWeigh(t *testing.T) {
	twice := weights(weight(3, 5), weight(1, 6), weight(3, 7), weight(1, 8), weight(greatest, 9), weight(3, 10))
	for _, x := range []struct {
		l    []api.Weight
		id   uint64
		want float64
	}{
		{nil, 0, 1}, {weights(), 7, 1}, {weights(weight(7, 2)), 7, 2}, {weights(weight(7, 2)), 6, 1}, {weights(weight(7, 2)), 8, 1}, {weights(weight(7, 2)), 0, 1}, {weights(api.Weight{}), 0, 0}, {weights(api.Weight{}), 1, 1},
		{twice, 3, 5}, {twice, 1, 6}, {twice, greatest, 9}, {twice, 2, 1}, {twice, 0, 1}, {twice, 5, 1}, {twice[1:], 3, 7}, {twice[2:4], 1, 8}, {twice[4:], 3, 10}, {twice[:4], greatest, 1},
		// The first one, whatever it is; and a weight is no Id.
		{weights(weight(7, 1), weight(7, 2)), 7, 1}, {weights(weight(7, 2), weight(7, 1)), 7, 2}, {weights(weight(7, 0), weight(7, 2)), 7, 0}, {weights(weight(7, -3), weight(7, 2)), 7, -3}, {weights(weight(7, minus), weight(7, 2)), 7, minus},
		{weights(weight(7, none), weight(7, 2)), 7, none}, {weights(weight(7, inf), weight(7, -inf)), 7, inf}, {weights(weight(7, -inf), weight(7, inf)), 7, -inf}, {weights(weight(2, 7), weight(7, 2)), 2, 7},
		{weights(weight(1<<53, 2), weight(1<<53+1, 3)), 1<<53 + 1, 3}, {weights(weight(1<<63, 2), weight(1<<63+1, 3)), 1<<63 + 1, 3}, {weights(weight(1<<32, 2)), 0, 1}, {weights(weight(greatest-1, 2)), greatest, 1},
	} {
		got := Weigh(x.l, x.id)
		if math.Float64bits(got) != math.Float64bits(x.want) && !(math.IsNaN(got) && math.IsNaN(x.want)) {
			t.Errorf("Weigh(%v, %d) = %v; want %v", x.l, x.id, got, x.want)
		}
	}
}

// P11.1: a weight is told as it is, at each place of a long list.
func TestWeighEachPlace(t *testing.T) {
	var l []api.Weight
	for i, w := range edges() {
		l = append(l, weight(uint64(2*i), w))
	}
	l = append(l, l...)
	for i, w := range edges() {
		if got := Weigh(l, uint64(2*i)); got != w && !(math.IsNaN(got) && math.IsNaN(w)) || math.Signbit(got) != math.Signbit(w) {
			t.Errorf("Weigh of %d = %v; want %v", 2*i, got, w)
		}
		if got := Weigh(l, uint64(2*i+1)); got != 1 {
			t.Errorf("Weigh of %d = %v; want 1", 2*i+1, got)
		}
	}
	far := append(make([]api.Weight, 100000), weight(5, 6), weight(5, 7))
	if got := Weigh(far, 5); got != 6 {
		t.Errorf("Weigh of the last = %v; want 6", got)
	}
}

// P11.2
func TestOne(t *testing.T) {
	for _, x := range []struct {
		c          api.Channel
		w, n, want float64
	}{
		{plain(1, 40, 60), 1, 0, 0.4}, {plain(1, 40, 60), 1, 10, 0.3}, {plain(1, 40, 60), 2, 10, 0.6}, {plain(1, 40, 60), -2, 10, -0.6}, {plain(1, 100, 0), 1, 0, 1}, {plain(1, 1, 0), 7, 0, 7},
		// Of what is held, kept, or the most; of one that is not open, is bursting, or below its reserve there is no room.
		{open(1, 50, 20, 10, 90, hold(5, 30)), 1, 15, 0.25}, {open(1, 50, 20, 10, 50, hold(5, 30)), 1, 15, 0.05}, {open(1, 75, 25, 0, 50), 1, 25, 0.25}, {open(1, 75, 25, 25, 90), 3, 0, 1.5},
		{closed(1, 40, 60, 0, 90), 1, 0, 0}, {closed(1, 40, 60, 0, 90), 1, 10, -0.1}, {closed(1, 40, 60, 0, 90), 5, -10, 0.5}, {open(1, 5, 5, 6, 90), 1, 0, 0}, {open(1, 5, 5, 6, 90), 1, 5, -0.5}, {bursting(2)[0], 1, 0, 0},
		// All the room, one more, and greater.
		{plain(1, 40, 60), 9, 40, 0}, {plain(1, 40, 60), 1, 41, -0.01}, {plain(1, 40, 60), -1, 41, 0.01}, {plain(1, 40, 60), 1, 140, -1}, {plain(1, 1, 0), 1, 0x1p64, 1 - 0x1p64}, {plain(1, 40, 60), 1, -60, 1}, {plain(1, 40, 60), 1, 0.5, 0.395},
		// All is 0: no number, but for another n.
		{api.Channel{}, 1, 0, none}, {open(1, 0, 0, 0, 9), 2, 0, none}, {open(1, 0, 0, 0, 9), 2, minus, none}, {open(1, 0, 0, 9, 9), inf, 0, none}, {open(1, 0, 0, 0, 9), 0, 0, none},
		{open(1, 0, 0, 0, 9), 2, 5, -inf}, {open(1, 0, 0, 0, 9), 2, -5, inf}, {open(1, 0, 0, 0, 9), -2, tiny, inf}, {open(1, 0, 0, 0, 9), 0, 5, none}, {closed(1, 0, 0, 0, 9), 1, -tiny, inf},
		// Weights that are no numbers, infinities, 0, -0, or below 0.
		{plain(1, 40, 60), none, 10, none}, {plain(1, 40, 60), inf, 10, inf}, {plain(1, 40, 60), -inf, 10, -inf}, {plain(1, 40, 60), 0, 10, 0}, {plain(1, 40, 60), minus, 10, 0}, {plain(1, 40, 60), inf, 50, -inf}, {plain(1, 40, 60), -inf, 50, inf},
		{plain(1, 40, 60), inf, 40, none}, {plain(1, 40, 60), -inf, 40, none}, {plain(1, 40, 60), huge, 40, 0}, {plain(1, 1, 0), huge, 0, huge}, {plain(1, 1, 0), tiny, 0, tiny}, {plain(1, 1, 0), -tiny, 0, -tiny},
		// So for n.
		{plain(1, 40, 60), 1, none, none}, {plain(1, 40, 60), 0, none, none}, {plain(1, 40, 60), 1, inf, -inf}, {plain(1, 40, 60), 1, -inf, inf}, {plain(1, 40, 60), 0, inf, none}, {plain(1, 40, 60), inf, inf, -inf}, {plain(1, 0, 0), 1, inf, -inf}, {plain(1, 0, 0), 1, none, none},
		// The greatest channels.
		{plain(1, most, 0), 1, 0, 1}, {plain(1, 0, most), 1, 0, 0}, {plain(1, most/2, most/2), 3, 0, 1.5}, {plain(1, most, 0), 1, most, 0}, {plain(1, most, 0), 1, most / 4, 0.75}, {plain(1, most, 0), 1, 0x1p63, -1}, {plain(1, 1, most-1), 1, 0, 0x1p-62},
	} {
		wantOne(t, x.c, x.w, x.n, x.want, api.OK)
	}
}

// P11.2: all channels that may be, of all weights and n at edges.
func TestOneByTheWords(t *testing.T) {
	for _, c := range ones() {
		if !mayBe(c) {
			t.Fatalf("%v may not be", c)
		}
		room, all := asFloat(roomBy(c)), asFloat(allBy(c))
		for _, n := range append(edges(), room, room+1, room-1, room/2, all, math.Nextafter(room, inf), math.Nextafter(room, -inf)) {
			for _, w := range edges() {
				wantOne(t, c, w, n, scoreBy(c, w, n), api.OK)
			}
		}
	}
}

// P11.2: each step is rounded, in the chapter's order: no other way of working it out tells the same.
func TestOneEachStepIsRounded(t *testing.T) {
	for _, x := range []struct {
		name        string
		c           api.Channel
		w, n        float64
		want, other float64
	}{
		{"the part ahead of the weight", plain(1, 1, 9), 3, 0, 0.30000000000000004, 0.3},
		{"the part ahead of the weight, that is not less", plain(1, 10, 39), 49, 9, 0.9999999999999999, 1},
		{"the room less n ahead of the part", plain(1, 3, 7), 1, 1, 0.2, 0.3 - float64(0.1)},
		{"the room is rounded", plain(1, 1<<53+1, 0), 1, 1 << 53, 0, 0x1p-53},
		{"the room is rounded to the even one above", plain(1, 1<<53+3, 1<<53-3), 1, 1 << 53, 0x1p-52, 0x1.8p-53},
		{"all is rounded", plain(1, 1, 1<<53), 1, 0, 0x1p-53, 0x1.fffffffffffffp-54},
		{"the room less n is rounded", plain(1, 1, 0), 1, -0x1p53, 0x1p53, 0x1p53 + 2},
		{"the room less n is rounded, if n is small", plain(1, 1, 0), 1, 0x1p-55, 1, 0x1.fffffffffffffp-1},
		{"the part is rounded, not the weight's", plain(1, 1, 2), 3, 0, 1, 0x1.fffffffffffffp-1},
		{"the part is below all numbers", plain(1, 0, 4), huge, tiny, 0, -tiny},
		{"the part goes to an infinity", plain(1, 0, 0), 0.5, -1, inf, huge},
		{"the weight does not go to an infinity", plain(1, 4, 0), 4, -huge, huge, inf},
		{"the score goes to an infinity", plain(1, 1, 0), 2, -huge, inf, huge},
		{"the score goes below all numbers", plain(1, 1, 1), tiny, 0, 0, tiny},
		{"the score is rounded up to the least number", plain(1, 3, 1), tiny, 0, tiny, 0},
		{"the score is half of a number, to the even one", plain(1, 1, 1), 3 * tiny, 0, 2 * tiny, tiny},
		{"not as float32", plain(1, 1, 2), 1, 0, 0.3333333333333333, float64(float32(1) / 3)},
		{"not as whole numbers", plain(1, 7, 3), 1, 2, 0.5, 0},
	} {
		if x.want == x.other || placeBy(scoreBy(x.c, x.w, x.n)) != placeBy(x.want) {
			t.Fatalf("%s: it tells nothing: %v, %v, %v", x.name, x.want, x.other, scoreBy(x.c, x.w, x.n))
		}
		wantOne(t, x.c, x.w, x.n, x.want, api.OK)
	}
}

// P11.2: channels of all sizes, with weights and n of all kinds.
func TestOneOfAllKinds(t *testing.T) {
	r := rand.New(rand.NewSource(2))
	for range 60000 {
		c := plain(r.Uint64(), r.Uint64()%(most/2)>>r.Intn(62), r.Uint64()%(most/2)>>r.Intn(62))
		w, n := r.NormFloat64(), float64(r.Uint64()>>r.Intn(64))
		switch r.Intn(4) {
		case 0:
			w = math.Float64frombits(r.Uint64())
		case 1:
			w, n = float64(1+r.Intn(9)), math.Float64frombits(r.Uint64())
		case 2:
			n = float64(c.Local) * r.Float64()
		}
		wantOne(t, c, w, n, scoreBy(c, w, n), api.OK)
	}
}

// P11.3
func TestOrder(t *testing.T) {
	// The parts of 100 are 0.4, 0.8, 0.4, 0.1, 0.8, for n of 0; the others have no room.
	l := row(
		plain(1, 40, 60), plain(2, 80, 20), plain(3, 40, 60), closed(4, 90, 10, 0, 100), plain(5, 0, 0), plain(6, 10, 90), open(7, 90, 10, 10, 100),
		open(8, 5, 5, 6, 100), open(9, 50, 50, 50, 100), open(10, 50, 50, 0, 0), plain(11, 0, 100), api.Channel{Id: 12},
	)
	for i, x := range []struct {
		w    []api.Weight
		n    uint64
		want []uint64
	}{
		{nil, 0, ids(2, 7, 1, 3, 6)}, {nil, 1, ids(2, 7, 1, 3, 6)}, {nil, 10, ids(2, 7, 1, 3, 6)}, {nil, 11, ids(2, 7, 1, 3)}, {nil, 39, ids(2, 7, 1, 3)}, {nil, 40, ids(2, 7, 1, 3)}, {nil, 41, ids(2, 7)},
		{nil, 80, ids(2, 7)}, {nil, 81, nil}, {nil, most, nil}, {nil, most + 1, nil}, {nil, 1 << 63, nil}, {nil, greatest, nil},
		// Weights that are of none, of 1, greater and less, below 0, and 0.
		{weights(weight(99, 5), weight(0, 7)), 0, ids(2, 7, 1, 3, 6)}, {weights(weight(3, 1)), 0, ids(2, 7, 1, 3, 6)}, {weights(weight(3, 1.5)), 0, ids(2, 7, 3, 1, 6)}, {weights(weight(6, 9)), 0, ids(6, 2, 7, 1, 3)}, {weights(weight(2, 0.75)), 0, ids(7, 2, 1, 3, 6)},
		{weights(weight(2, 0.5)), 0, ids(7, 1, 2, 3, 6)}, {weights(weight(2, -1)), 0, ids(7, 1, 3, 6, 2)}, {weights(weight(2, -1), weight(3, -1)), 0, ids(7, 1, 6, 3, 2)}, {weights(weight(7, 0)), 0, ids(2, 1, 3, 6, 7)}, {weights(weight(2, 0), weight(1, minus)), 0, ids(7, 3, 6, 1, 2)},
		{weights(weight(2, minus), weight(1, 0)), 0, ids(7, 3, 6, 1, 2)}, {weights(weight(2, minus), weight(7, minus), weight(6, -small)), 0, ids(1, 3, 2, 7, 6)}, {weights(weight(2, minus), weight(7, minus), weight(6, -tiny)), 0, ids(1, 3, 2, 6, 7)}, {weights(weight(2, -huge), weight(7, -inf), weight(6, none)), 0, ids(1, 3, 2, 7, 6)},
		// Who has no room is not told, however it is liked.
		{weights(weight(4, inf), weight(5, inf), weight(8, 100), weight(9, 100), weight(10, 100), weight(11, 100), weight(12, inf)), 0, ids(2, 7, 1, 3, 6)}, {weights(weight(6, inf)), 11, ids(2, 7, 1, 3)},
		// Infinities, and what is no number; of the same score the lesser Id first.
		{weights(weight(3, inf), weight(1, inf)), 0, ids(1, 3, 2, 7, 6)}, {weights(weight(3, inf)), 40, ids(2, 7, 1, 3)}, {weights(weight(1, inf)), 40, ids(2, 7, 3, 1)}, {weights(weight(1, -inf)), 40, ids(2, 7, 3, 1)}, {weights(weight(7, -inf), weight(2, -inf)), 0, ids(1, 3, 6, 2, 7)},
		{weights(weight(2, none)), 0, ids(7, 1, 3, 6, 2)}, {weights(weight(7, none), weight(2, none)), 0, ids(1, 3, 6, 2, 7)}, {weights(weight(6, none), weight(2, none), weight(1, -inf)), 0, ids(7, 3, 1, 2, 6)}, {weights(weight(1, none), weight(3, none)), 40, ids(2, 7, 1, 3)},
		{weights(weight(1, none), weight(2, none), weight(3, none), weight(6, none), weight(7, none)), 0, ids(1, 2, 3, 6, 7)}, {weights(weight(1, inf), weight(2, inf), weight(3, inf), weight(7, inf)), 80, ids(2, 7)},
		// The first one of an Id is the weight.
		{weights(weight(6, 9), weight(6, none)), 0, ids(6, 2, 7, 1, 3)}, {weights(weight(6, none), weight(6, 9)), 0, ids(2, 7, 1, 3, 6)}, {weights(weight(2, 0), weight(7, 0), weight(2, 9)), 0, ids(1, 3, 6, 2, 7)},
	} {
		got, e := Order(l, x.w, x.n)
		if !slices.Equal(got, x.want) || e != api.OK {
			t.Errorf("%d: Order(l, %v, %d) = %v, %d; want %v", i, x.w, x.n, got, e, x.want)
		}
		wantOrder(t, l, x.w, x.n, x.want, api.OK)
	}
}

// P11.3: of no channel, of one, and of channels none of which has room.
func TestOrderOfFew(t *testing.T) {
	for _, w := range [][]api.Weight{nil, weights(weight(0, none)), weights(weight(0, inf), weight(greatest, -1))} {
		for _, n := range []uint64{0, 1, most, greatest} {
			wantOrder(t, nil, w, n, nil, api.OK)
			wantOrder(t, row(), w, n, nil, api.OK)
			for _, l := range [][]api.Channel{
				{{}}, {{Open: true}}, {closed(0, 50, 50, 0, 90)}, {closed(greatest, most, 0, 0, most)}, {open(0, 5, 5, 5, 90)}, {open(0, 5, 5, 6, 90)}, {open(0, 5, 5, 0, 0)}, {plain(0, 0, 5)},
				bursting(2)[:1], alike(full, 0, 0), {plain(0, 0, 0), closed(greatest, 5, 5, 0, 5)}, {open(0, 9, 9, 0, 9, hold(5, 9))}, {open(0, 9, 9, 9, 99, hold(5, 9))},
			} {
				wantOrder(t, l, w, n, nil, api.OK)
			}
		}
		for _, id := range []uint64{0, 1, 7, greatest} {
			wantOrder(t, row(plain(id, 5, 5)), w, 0, ids(id), api.OK)
			wantOrder(t, row(plain(id, 5, 5)), w, 4, ids(id), api.OK)
			wantOrder(t, row(plain(id, 5, 5)), w, 5, ids(id), api.OK)
			wantOrder(t, row(plain(id, 5, 5)), w, 6, nil, api.OK)
			wantOrder(t, row(plain(id, 1, 0)), w, 1, ids(id), api.OK)
			wantOrder(t, row(plain(id, most, 0)), w, most, ids(id), api.OK)
			wantOrder(t, row(plain(id, most, 0)), w, most+1, nil, api.OK)
			wantOrder(t, row(plain(id, most-1, 0)), w, most, nil, api.OK)
			wantOrder(t, row(open(id, most, 0, 0, most-1)), w, most, nil, api.OK)
			wantOrder(t, row(open(id, most, 0, 1, most)), w, most, nil, api.OK)
		}
	}
	// An Id of 0 is told as one that is there.
	if id, e := First(row(plain(0, 5, 5)), nil, 5); id != 0 || e != api.OK {
		t.Errorf("First = %d, %d; want 0, 0", id, e)
	}
}

// P11.3: n is held against the room as a whole number, and only then as float64.
func TestOrderOfGreatN(t *testing.T) {
	l := row(plain(1, 1<<53, 0), plain(2, 1<<53+1, 0), plain(3, 1<<53+2, 0))
	for n, want := range map[uint64][]uint64{1 << 53: ids(3, 1, 2), 1<<53 + 1: ids(3, 2), 1<<53 + 2: ids(3), 1<<53 + 3: nil, 1<<53 - 1: ids(3, 1, 2), 0: ids(1, 2, 3)} {
		wantOrder(t, l, nil, n, want, api.OK)
	}
	for _, shift := range []uint{53, 54, 55, 60} {
		for room := uint64(1<<shift - 3); room <= 1<<shift+3; room++ {
			for n := uint64(1<<shift - 4); n <= 1<<shift+4; n++ {
				var want []uint64
				if room >= n {
					want = ids(9)
				}
				wantOrder(t, row(plain(9, room, 0)), nil, n, want, api.OK)
			}
		}
	}
}

// P11.3: scores that are the same once they are rounded are in order of their Ids, and the others are not.
func TestOrderOfRounded(t *testing.T) {
	for _, x := range []struct {
		name string
		l    []api.Channel
		w    []api.Weight
		n    uint64
		want []uint64
	}{
		// Worked out exactly, the second one would be first.
		{"the rooms", row(plain(1, 1<<54, 1<<54), plain(2, 1<<54+1, 1<<54-1)), nil, 0, ids(1, 2)},
		{"the rooms less n", row(plain(1, 1<<54, 1<<54), plain(2, 1<<54+1, 1<<54-1)), nil, 1 << 54, ids(1, 2)},
		{"n", row(plain(1, 1<<54+4, 1<<54-4), plain(2, 1<<54+5, 1<<54-5)), nil, 1<<54 + 1, ids(1, 2)},
		{"all", row(plain(1, 1, 1<<53), plain(2, 1, 1<<53-1)), nil, 0, ids(1, 2)},
		{"the scores", row(plain(1, 1, 1), plain(2, 1, 0)), weights(weight(1, 0), weight(2, tiny/2)), 0, ids(1, 2)},
		{"scores below all numbers", row(plain(1, 1, 2), plain(2, 1, 1)), weights(weight(1, tiny), weight(2, tiny)), 0, ids(1, 2)},
		{"scores below all numbers and below 0", row(plain(1, 1, 1), plain(2, 1, 2)), weights(weight(1, -tiny), weight(2, -tiny)), 0, ids(1, 2)},
		{"0, -0 and less than all numbers", row(plain(1, 1, 1), plain(2, 1, 1), plain(3, 1, 1), plain(4, 1, 1)), weights(weight(1, minus), weight(2, tiny), weight(3, -tiny), weight(4, 0)), 0, ids(1, 2, 3, 4)},
		{"0 of all the room", row(plain(1, 5, 5), plain(2, 5, 1), plain(3, 5, 9)), weights(weight(1, -9), weight(2, 9), weight(3, huge)), 5, ids(1, 2, 3)},
		{"a part by a weight", row(plain(1, 3, 7), plain(2, 1, 9)), weights(weight(2, 3)), 0, ids(2, 1)},
		{"a part by another weight", row(plain(1, 1, 9), plain(2, 3, 7)), weights(weight(1, 3)), 0, ids(1, 2)},
		{"just above", row(plain(1, 1<<53-2, 2), plain(2, 1<<53-1, 1)), nil, 0, ids(2, 1)},
		{"the weight just above", row(plain(1, 1, 1), plain(2, 1, 1)), weights(weight(2, 0x1.0000000000001p0)), 0, ids(2, 1)},
		{"the weight just below", row(plain(1, 1, 1), plain(2, 1, 1)), weights(weight(1, 0x1.fffffffffffffp-1)), 0, ids(2, 1)},
	} {
		t.Log(x.name)
		wantOrder(t, x.l, x.w, x.n, x.want, api.OK)
		orderAll(t, x.l, x.w, x.n)
	}
}

// P11.3: scores that are the same are in order of their Ids, whatever they are, and however many.
func TestOrderOfTheSame(t *testing.T) {
	for _, same := range rising() {
		for _, n := range []int{1, 2, 3, 12, 13, 20, full} {
			l := alike(n, 1, 0)
			var w []api.Weight
			for i := range l {
				w = append(w, weight(uint64(n-1-i), same[i%len(same)]))
			}
			wantOrder(t, l, w, 0, idsOfAll(l), api.OK)
		}
	}
	// By 0 both infinities are no numbers.
	l := alike(full, 1, 0)
	var w []api.Weight
	for i := range l {
		w = append(w, weight(uint64(i), []float64{inf, none, -inf}[i%3]))
	}
	wantOrder(t, l, w, 1, idsOfAll(l), api.OK)
}

// P11.3: each of all edges against each, as weights.
func TestOrderOfEachPair(t *testing.T) {
	l := row(plain(3, 1, 0), plain(8, 1, 0))
	for i, first := range rising() {
		for k, second := range rising() {
			want := ids(3, 8)
			if i < k {
				want = ids(8, 3)
			}
			for _, a := range first {
				for _, b := range second {
					wantOrder(t, l, weights(weight(8, b), weight(3, a)), 0, want, api.OK)
				}
			}
		}
	}
}

// P11.3: up to MaxChannels, by weights that rise, fall, and are mixed.
func TestOrderUpToMaxChannels(t *testing.T) {
	for n := range full + 1 {
		for name, likes := range map[string]func(i int) float64{
			"rising":   func(i int) float64 { return float64(i) },
			"falling":  func(i int) float64 { return float64(-i) },
			"mixed":    func(i int) float64 { return float64(i * 13 % 29) },
			"the same": func(i int) float64 { return 7 },
			"in twos":  func(i int) float64 { return float64(i / 2) },
			"edges":    func(i int) float64 { return edges()[i*11%len(edges())] },
			"nones":    func(i int) float64 { return []float64{none, -inf, 0, none, minus}[i%5] },
		} {
			var w []api.Weight
			for i := range n {
				w = append(w, weight(uint64(i), likes(i)), weight(uint64(3*i+3), likes(i)))
			}
			t.Log(n, name)
			orderAll(t, alike(n, 9, 9), w, 4)
			for _, k := range []uint64{0, 1, 20, 50, 90} {
				orderAll(t, many(n), w, k)
				orderAll(t, many(n), nil, k)
			}
		}
	}
	l := alike(full, 9, 9)
	var rise []api.Weight
	for i := range l {
		rise = append(rise, weight(uint64(i), float64(i)))
	}
	want := idsOfAll(l)
	slices.Reverse(want)
	wantOrder(t, l, rise, 0, want, api.OK)
	wantOrder(t, bursting(full), nil, 1, ids(3*full), api.OK)
	wantOrder(t, alike(full, most/full, 0), nil, most/full, idsOfAll(l), api.OK)
}

// P11.1 to P11.4: all rows of up to three of few channels, those that may not be among them.
func TestAllSmallRows(t *testing.T) {
	few := row(
		plain(0, 10, 10, hold(5, 1)), open(1, 9, 3, 2, 8), plain(1, 5, 5), api.Channel{Id: 1}, open(2, 9, 3, 2, 8, hold(4, 1)), closed(2, 8, 4, 0, 9), plain(2, 10, 11),
		open(3, 6, 0, 3, 7, hold(4, 2), hold(6, 1)), open(3, 1, most-40, 0, 9), plain(3, 0, 0), plain(greatest, 5, 5), plain(2, most+1, 0),
	)
	likes := [][]api.Weight{
		nil, weights(weight(1, 2), weight(2, 0.5)), weights(weight(2, none), weight(2, 5), weight(0, none)), weights(weight(greatest, inf), weight(3, -inf), weight(1, -1)), weights(weight(1, inf), weight(2, 0), weight(3, minus), weight(0, -0.5)),
	}
	rows := [][]api.Channel{nil}
	for long := 0; long <= 3; long++ {
		var longer [][]api.Channel
		for _, l := range rows {
			for _, w := range likes {
				for _, n := range []uint64{0, 1, 3, 5, 7, 10, 11} {
					orderAll(t, l, w, n)
				}
			}
			for _, c := range few {
				longer = append(longer, append(slices.Clone(l), c))
			}
		}
		rows = longer
	}
}

// someRow is a row of channels that may be, of all sizes.
func someRow(r *rand.Rand) []api.Channel {
	l := make([]api.Channel, r.Intn(full+1))
	shift := r.Intn(50)
	for i := range l {
		part := func() uint64 { return r.Uint64() % (most / full / 8) >> shift }
		l[i] = open(uint64(i*7+r.Intn(7)), part(), part(), part()/8, part()+part())
		l[i].Open = r.Intn(6) > 0
		// All of them together are less than half of what is the most.
		for k := range r.Intn(4) {
			if n := min(part(), l[i].Most) / 8; l[i].Open && n > 0 {
				l[i].Holds = append(l[i].Holds, hold(uint64(100*i+k), n))
			}
		}
		// Some have one room, or are alike.
		if r.Intn(3) == 0 && i > 0 && len(l[i-1].Holds) == 0 {
			id := l[i].Id
			l[i] = l[i-1]
			l[i].Id = id
		}
	}
	return l
}

// P11.3, P11.4: rows of all sizes, with weights of all kinds, and n at each room.
func TestOrderByTheWords(t *testing.T) {
	for seed := range int64(40) {
		r := rand.New(rand.NewSource(seed))
		for range 12 {
			l := someRow(r)
			if !allMayBe(l) {
				t.Fatalf("%v may not be", l)
			}
			var w []api.Weight
			for range r.Intn(60) {
				w = append(w, weight(uint64(r.Intn(7*full)), float64(r.Intn(4))))
			}
			for i := range w {
				if r.Intn(4) == 0 {
					w[i].W = edges()[r.Intn(len(edges()))]
				}
			}
			orderAll(t, l, w, 0)
			for _, c := range l {
				for _, n := range []uint64{roomBy(c), roomBy(c) + 1, roomBy(c) / 2} {
					orderAll(t, l, w, n)
				}
			}
		}
	}
}

// P11.4: each step of a long way is by the first one, until there is none that can hold so much.
func TestWhatFollows(t *testing.T) {
	w := weights(weight(0, 2), weight(9, none), weight(greatest, inf), weight(4, -1))
	for _, n := range []uint64{1, 2, 3, 10} {
		l, done := some(), 0
		for ; ; done++ {
			id, e := First(l, w, n)
			if e != api.OK {
				break
			}
			after, e := ledger.Hold(l, id, uint64(1000+done), n)
			if e != api.OK {
				t.Fatalf("channel %d of %v is first, and Hold of %d tells %d", id, l, n, e)
			}
			l = after
		}
		for _, c := range l {
			if _, e := ledger.Hold(l, c.Id, 9999, n); e == api.OK {
				t.Errorf("none is first of %v, and channel %d can hold %d", l, c.Id, n)
			}
		}
		if done < 3 {
			t.Errorf("only %d of %d were held", done, n)
		}
		wantOrder(t, l, w, n, nil, api.OK)
	}
}

// R1: channels that may not be are told ahead of all else, and all else is zero.
func TestWrongChannels(t *testing.T) {
	for name, c := range wrongOnes() {
		for _, id := range []uint64{0, 7, greatest} {
			c.Id = id
			for _, w := range edges() {
				for _, n := range []float64{0, 1, -1, inf, -inf, none, 0x1p62, w} {
					if got, e := One(c, w, n); math.Float64bits(got) != 0 || e != api.ErrArg {
						t.Errorf("%s: One(c, %v, %v) = %v, %d; want 0, 1", name, w, n, got, e)
					}
				}
			}
		}
	}
	for name, l := range wrong() {
		if allMayBe(l) {
			t.Errorf("%s: %v may be", name, l)
		}
		for _, w := range [][]api.Weight{nil, weights(weight(2, none)), weights(weight(0, inf), weight(3, -1))} {
			for _, n := range []uint64{0, 1, 5, 100, most, most + 1, greatest} {
				if got, e := Order(l, w, n); got != nil || e != api.ErrArg {
					t.Errorf("%s: Order(l, %v, %d) = %v, %d; want none, 1", name, w, n, got, e)
				}
				if got, e := First(l, w, n); got != 0 || e != api.ErrArg {
					t.Errorf("%s: First(l, %v, %d) = %v, %d; want 0, 1", name, w, n, got, e)
				}
			}
		}
	}
}

// A row that may not be together may be of ones that each have a score.
func TestOneKnowsNoOthers(t *testing.T) {
	for _, name := range []string{"one Id twice", "one hold in two", "Local and Local", "one too many", "Ids fall"} {
		l := wrong()[name]
		if l == nil {
			t.Fatalf("no row is named %s", name)
		}
		for _, c := range l {
			wantOne(t, c, 2, 1, scoreBy(c, 2, 1), api.OK)
		}
	}
}

// The chapter's example.
func TestOfTwoAlike(t *testing.T) {
	l := row(plain(3, 40, 60), plain(8, 40, 60))
	for _, n := range []uint64{0, 1, 40} {
		wantOrder(t, l, nil, n, ids(3, 8), api.OK)
		wantOrder(t, l, weights(weight(8, 2), weight(3, 2)), n, ids(3, 8), api.OK)
	}
}

// laid is the row cut out of a longer one, each list of holds cut out of a longer one too; and the whole of it.
func laid(l []api.Channel) ([]api.Channel, []api.Channel) {
	room := append(row(plain(77, 77, 0)), apart(l)...)
	room = append(room, plain(88, 88, 0, hold(86, 86)), plain(89, 89, 0), plain(90, 90, 0))
	for i, c := range room {
		holds := append([]api.Hold{hold(66, 66)}, c.Holds...)
		holds = append(holds, hold(67, 67), hold(68, 68), hold(69, 69))
		room[i].Holds = holds[1 : 1+len(c.Holds)]
	}
	return room[1 : 1+len(l)], room
}

// laidWeights are weights cut out of more of them, and all of those.
func laidWeights(l []api.Weight) ([]api.Weight, []api.Weight) {
	room := append(weights(weight(77, 7)), l...)
	room = append(room, weight(88, 8), weight(4, 9), weight(0, 9))
	return room[1 : 1+len(l)], room
}

// seen is all that there is up to the end of the memory, as text.
func seen(l []api.Channel, w []api.Weight) string {
	var told string
	for _, c := range l[:cap(l)] {
		told += fmt.Sprint(c, c.Holds[:cap(c.Holds)])
	}
	for _, x := range w[:cap(w)] {
		told += fmt.Sprint(" ", x.Id, math.Float64bits(x.W))
	}
	return told
}

// wipe writes over all channels, holds and weights, and those behind their ends.
func wipe(l []api.Channel, w []api.Weight) {
	l, w = l[:cap(l)], w[:cap(w)]
	for i := range l {
		holds := l[i].Holds[:cap(l[i].Holds)]
		for k := range holds {
			holds[k] = hold(99, 99)
		}
		l[i] = plain(99, 99, 99)
	}
	for i := range w {
		w[i] = weight(99, 99)
	}
}

// R2: what is told is new.
func TestToldIsNew(t *testing.T) {
	likes := weights(weight(9, 5), weight(4, none), weight(greatest, minus))
	for _, n := range []uint64{0, 1, 2, 10, 32, 40} {
		l, room := laid(some())
		w, more := laidWeights(likes)
		kept := seen(room, more)
		told, e := Order(l, w, n)
		again, _ := Order(l, w, n)
		want := slices.Clone(told)
		if len(told) == 0 || e != api.OK || !slices.Equal(told, again) {
			t.Fatalf("Order(%v, %v, %d) = %v, %d, and then %v", l, w, n, told, e, again)
		}
		told = told[:cap(told)]
		for i := range told {
			told[i] = 99
		}
		if seen(room, more) != kept || !slices.Equal(again, want) {
			t.Errorf("what was told shares memory: %v, %v, %v", room, more, again)
		}
		wipe(room, more)
		if !slices.Equal(again, want) {
			t.Errorf("what was told hangs on what was handed in: %v; want %v", again, want)
		}
	}
}

// R2: what is handed in stays as it was, also behind its ends.
func TestHandedInStays(t *testing.T) {
	rows := [][]api.Channel{nil, some(), many(7), many(full), bursting(full), alike(full, 1, 0)}
	for _, l := range wrong() {
		rows = append(rows, l)
	}
	for _, kept := range rows {
		l, room := laid(kept)
		w, more := laidWeights(weights(weight(9, 5), weight(3, none), weight(0, -1), weight(3, 7), weight(greatest, math.Float64frombits(0xFFF0000000000001))))
		was := seen(room, more)
		for _, n := range []uint64{0, 1, 5, 40, 1000, most, greatest} {
			Order(l, w, n)
			First(l, w, n)
			Weigh(w, n)
		}
		for _, c := range l {
			One(c, Weigh(w, c.Id), 5)
		}
		if now := seen(room, more); now != was {
			t.Errorf("what was handed in changed: %v; want %v", now, was)
		}
	}
}

// FuzzScore holds all calls against the chapter's words; each channel is made of seven octets, the last of which tells how it is liked.
func FuzzScore(f *testing.F) {
	f.Add([]byte{1, 90, 20, 5, 0, 80, 4, 4, 10, 9, 90, 20, 5, 1}, uint64(0), 1.5, 2.5, uint64(5))
	f.Add([]byte{1, 90, 20, 5, 2, 80, 4, 3, 90, 2, 9, 0, 50, 1, 8, 7, 10, 0, 1, 90, 5}, uint64(most), none, inf, uint64(1))
	f.Add([]byte{2, 0, 0, 0, 0, 0, 1, 3, 50, 0, 0, 0, 60, 4}, uint64(most-500), minus, -inf, uint64(1<<53+1))
	f.Add([]byte{2, 1, 1, 1, 128, 1, 3, 5, 5, 0, 0, 9, 9, 9}, uint64(5), tiny, huge, uint64(3))
	f.Fuzz(func(t *testing.T, b []byte, local uint64, a, z float64, n uint64) {
		var l []api.Channel
		w := weights(weight(n, a))
		likes := append(edges(), a, z, -a, a+z)
		for ; len(b) >= 7; b = b[7:] {
			c := open(uint64(b[0]), uint64(b[1]), uint64(b[2]), uint64(b[3]), uint64(b[5]))
			c.Open = b[4] < 224
			if b[4]%2 == 1 {
				c.Holds = append(c.Holds, hold(uint64(b[0]), uint64(b[4])))
			}
			l = append(l, c)
			w = append(w, weight(uint64(b[0]), likes[int(b[6])%len(likes)]))
		}
		if len(l) > 0 {
			l[len(l)-1].Local += local
			l[len(l)-1].Most = max(l[len(l)-1].Most, local)
		}
		wantLess(t, a, z, placeBy(a) < placeBy(z), placeBy(z) < placeBy(a))
		for _, c := range l {
			if mayBe(c) {
				wantOne(t, c, a, z, scoreBy(c, a, z), api.OK)
			} else {
				wantOne(t, c, a, z, 0, api.ErrArg)
			}
			if got, want := Weigh(w, c.Id), weighBy(w, c.Id); placeBy(got) != placeBy(want) {
				t.Errorf("Weigh(%v, %d) = %v; want %v", w, c.Id, got, want)
			}
			orderAll(t, l, w, roomBy(c))
		}
		orderAll(t, l, w, n)
		orderAll(t, l, w, n%256)
		orderAll(t, l, w[1:], 0)
	})
}
