package money

import (
	"fmt"
	"math"
	"math/big"
	"slices"
	"testing"

	"damson/api"
)

// most and million are written out, so that the tests do not lean on what they hold the program against.
const (
	most    = 1 << 62
	million = 1000000
)

// amounts are some of all sizes: the edges, and some at each power of two.
func amounts() []uint64 {
	l := []uint64{0, 1, 2, 3, 7, 10, 999, 1000, 999999, 1000000, 1000001, most - 1, most, most / 3, most / 3 * 2}
	for bit := 2; bit < 62; bit++ {
		p := uint64(1) << bit
		l = append(l, p-1, p, p+1, p+p/3)
	}
	return l
}

// tooMuch are numbers that are no amounts.
func tooMuch() []uint64 {
	return []uint64{most + 1, most + 2, most * 2, most*2 + 1, most * 3, 1<<63 - 1, math.MaxUint64 - 1, math.MaxUint64}
}

// portions are numbers of parts that may be.
func portions() []uint64 {
	return []uint64{0, 1, 2, 3, 7, 999, 1000, 1001, 333333, 499999, 500000, 500001, 666667, 999998, 999999, 1000000}
}

// tooGreat are numbers above a million.
func tooGreat() []uint64 {
	return []uint64{million + 1, million + 2, 2 * million, 1 << 32, 1<<32 + 1, most, most + 1, math.MaxUint64}
}

// weighings are weights that may be.
func weighings() [][]uint64 {
	rising := make([]uint64, 64)
	thin := make([]uint64, 64)
	for i := range rising {
		rising[i] = uint64(i)
		thin[i] = uint64(i*i*7919) % (million + 1)
	}
	lastOnly := make([]uint64, 64)
	lastOnly[63] = 1
	return [][]uint64{
		{1}, {7}, {999999}, {million},
		{1, 1}, {1, 2}, {2, 1}, {0, 1}, {1, 0}, {million, 1}, {1, million}, {million, million}, {million, 0}, {0, million},
		{1, 1, 1}, {0, 3, 1}, {3, 0, 1}, {3, 1, 0}, {0, 0, 5}, {0, 5, 0}, {5, 0, 0}, {0, 0, 0, 1},
		{1, 2, 3, 4, 5, 6, 7}, {999999, 1, 999998, 2}, {333333, 333333, 333334},
		rising, thin, lastOnly, slices.Repeat([]uint64{1}, 63), slices.Repeat([]uint64{1}, 64), slices.Repeat([]uint64{million}, 64),
	}
}

func great(n uint64) *big.Int { return new(big.Int).SetUint64(n) }

// times is a times part by whole, without what is left over, worked out by numbers of any size.
func times(a, part, whole uint64) uint64 {
	n := new(big.Int).Mul(great(a), great(part))
	return n.Quo(n, great(whole)).Uint64()
}

// sum is worked out by numbers of any size.
func sum(l []uint64) *big.Int {
	all := new(big.Int)
	for _, n := range l {
		all.Add(all, great(n))
	}
	return all
}

// splitBy is what the chapter's words say of each weight, worked out weight by weight.
func splitBy(a uint64, weights []uint64) []uint64 {
	all := sum(weights).Uint64()
	var parts []uint64
	for i := range weights {
		upTo := times(a, sum(weights[:i+1]).Uint64(), all)
		ahead := times(a, sum(weights[:i]).Uint64(), all)
		parts = append(parts, upTo-ahead)
	}
	return parts
}

func wantNumber(t *testing.T, call string, n uint64, e api.Errno, want uint64, wantE api.Errno) {
	t.Helper()
	if n != want || e != wantE {
		t.Errorf("%s = %d, %d; want %d, %d", call, n, e, want, wantE)
	}
}

func wantCheck(t *testing.T, want api.Errno, l ...uint64) {
	t.Helper()
	if e := Check(l...); e != want {
		t.Errorf("Check(%v) = %d; want %d", l, e, want)
	}
}

func wantAdd(t *testing.T, want uint64, wantE api.Errno, l ...uint64) {
	t.Helper()
	n, e := Add(l...)
	wantNumber(t, fmt.Sprintf("Add(%v)", l), n, e, want, wantE)
}

func wantSub(t *testing.T, a, b, want uint64, wantE api.Errno) {
	t.Helper()
	n, e := Sub(a, b)
	wantNumber(t, fmt.Sprintf("Sub(%d, %d)", a, b), n, e, want, wantE)
}

func wantShare(t *testing.T, a, part, want uint64, wantE api.Errno) {
	t.Helper()
	n, e := Share(a, part)
	wantNumber(t, fmt.Sprintf("Share(%d, %d)", a, part), n, e, want, wantE)
}

func wantFee(t *testing.T, base, part, a, want uint64, wantE api.Errno) {
	t.Helper()
	n, e := Fee(base, part, a)
	wantNumber(t, fmt.Sprintf("Fee(%d, %d, %d)", base, part, a), n, e, want, wantE)
}

func wantSplit(t *testing.T, a uint64, weights, want []uint64, wantE api.Errno) {
	t.Helper()
	l, e := Split(a, weights)
	if !slices.Equal(l, want) || e != wantE {
		t.Errorf("Split(%d, %v) = %v, %d; want %v, %d", a, weights, l, e, want, wantE)
	}
}

// P4.1
func TestCheck(t *testing.T) {
	wantCheck(t, api.OK)
	wantCheck(t, api.OK, nil...)
	wantCheck(t, api.OK, []uint64{}...)
	for _, n := range amounts() {
		wantCheck(t, api.OK, n)
	}
	wantCheck(t, api.OK, amounts()...)
	wantCheck(t, api.OK, most, most, most, most)
	for _, n := range tooMuch() {
		wantCheck(t, api.ErrArg, n)
	}
}

// P4.1: one that is too much is found wherever it stands.
func TestCheckEachPlace(t *testing.T) {
	for size := range 9 {
		for i := range size {
			for _, n := range tooMuch() {
				l := slices.Repeat([]uint64{most}, size)
				l[i] = n
				wantCheck(t, api.ErrArg, l...)
				clear(l)
				l[i] = n
				wantCheck(t, api.ErrArg, l...)
			}
		}
	}
}

// P4.1
func TestAdd(t *testing.T) {
	wantAdd(t, 0, api.OK)
	wantAdd(t, 0, api.OK, nil...)
	wantAdd(t, 0, api.OK, 0)
	wantAdd(t, 0, api.OK, 0, 0, 0)
	wantAdd(t, 6, api.OK, 1, 2, 3)
	wantAdd(t, 6, api.OK, 3, 0, 1, 2)
	wantAdd(t, 21, api.OK, 7, 7, 7)
	for _, n := range amounts() {
		wantAdd(t, n, api.OK, n)
	}
}

// P4.1
func TestAddAtTheMost(t *testing.T) {
	for _, l := range [][]uint64{
		{most}, {most, 0}, {0, most}, {0, most, 0}, {most - 1, 1}, {1, most - 1}, {most / 2, most / 2},
		{most/2 - 1, 1, most / 2}, slices.Repeat([]uint64{most / 64}, 64), slices.Repeat([]uint64{most / 4096}, 4096),
	} {
		wantAdd(t, most, api.OK, l...)
		wantAdd(t, 0, api.ErrOver, slices.Concat(l, []uint64{1})...)
		wantAdd(t, 0, api.ErrOver, slices.Concat([]uint64{1}, l)...)
		wantAdd(t, 0, api.ErrOver, slices.Concat([]uint64{1}, l, []uint64{0})...)
	}
	wantAdd(t, 0, api.ErrOver, most/2, most/2+1)
	wantAdd(t, 0, api.ErrOver, most, most)
}

// P4.1: sums that would be small again, if they went around.
func TestAddBeyond64Bits(t *testing.T) {
	for size := 2; size <= 300; size++ {
		wantAdd(t, 0, api.ErrOver, slices.Repeat([]uint64{most}, size)...)
	}
	wantAdd(t, 0, api.ErrOver, most, most, most, most, 5)
	wantAdd(t, 0, api.ErrOver, 5, most, most, most, most)
	wantAdd(t, 0, api.ErrOver, most-1, most-1, most-1, most-1, 4)
	wantAdd(t, 0, api.ErrOver, most-1, most-1, most-1, most-1, 9)
	wantAdd(t, 0, api.ErrOver, slices.Repeat([]uint64{most / 2}, 8)...)
	wantAdd(t, 0, api.ErrOver, slices.Repeat([]uint64{most / 2}, 9)...)
	wantAdd(t, 0, api.ErrOver, slices.Repeat([]uint64{most / 1024}, 4096)...)
}

// P4.1
func TestAddWrong(t *testing.T) {
	for _, n := range tooMuch() {
		wantAdd(t, 0, api.ErrArg, n)
		wantAdd(t, 0, api.ErrArg, n, 0)
		wantAdd(t, 0, api.ErrArg, 0, n)
		wantAdd(t, 0, api.ErrArg, 1, n, 2)
		wantAdd(t, 0, api.ErrArg, n, n)
		wantAdd(t, 0, api.ErrArg, n, n, n, n)
		// What is no amount is told ahead of a sum that is too great, also behind it.
		wantAdd(t, 0, api.ErrArg, n, most, most)
		wantAdd(t, 0, api.ErrArg, most, n, most)
		wantAdd(t, 0, api.ErrArg, most, most, n)
		// Also where both together would go around to an amount.
		wantAdd(t, 0, api.ErrArg, n, -n&(most-1))
	}
}

// P4.1
func TestSub(t *testing.T) {
	wantSub(t, 5, 3, 2, api.OK)
	wantSub(t, 3, 3, 0, api.OK)
	wantSub(t, 0, 0, 0, api.OK)
	wantSub(t, 3, 4, 0, api.ErrPoor)
	wantSub(t, 0, 1, 0, api.ErrPoor)
	wantSub(t, 0, most, 0, api.ErrPoor)
	wantSub(t, most-1, most, 0, api.ErrPoor)
	wantSub(t, most, most-1, 1, api.OK)
	for _, a := range amounts() {
		for _, b := range amounts() {
			if b > a {
				wantSub(t, a, b, 0, api.ErrPoor)
			} else {
				wantSub(t, a, b, a-b, api.OK)
			}
		}
	}
}

// P4.1: what is no amount is told ahead of too little.
func TestSubWrong(t *testing.T) {
	for _, n := range tooMuch() {
		for _, a := range amounts() {
			wantSub(t, n, a, 0, api.ErrArg)
			wantSub(t, a, n, 0, api.ErrArg)
		}
		for _, m := range tooMuch() {
			wantSub(t, n, m, 0, api.ErrArg)
		}
	}
}

// P4.2
func TestShare(t *testing.T) {
	for _, x := range []struct{ a, part, n uint64 }{
		{0, 0, 0}, {0, million, 0}, {1, 0, 0}, {1, 999999, 0}, {1, million, 1},
		{1000, 500000, 500}, {999, 1000, 0}, {1000, 1000, 1}, {1001, 1000, 1}, {1999, 1000, 1}, {2000, 1000, 2},
		{999999, 1, 0}, {1000000, 1, 1}, {1999999, 1, 1}, {2, 499999, 0}, {2, 500000, 1}, {3, 333333, 0}, {3, 333334, 1},
		{most, 0, 0}, {most, 1, 4611686018427}, {most, 250000, most / 4}, {most, 500000, most / 2},
		{most, 999999, 4611681406741369476}, {most, million, most}, {most - 1, million, most - 1},
	} {
		wantShare(t, x.a, x.part, x.n, api.OK)
	}
	for _, a := range amounts() {
		for _, part := range portions() {
			wantShare(t, a, part, times(a, part, million), api.OK)
		}
	}
}

// P4.2
func TestShareOfTheMost(t *testing.T) {
	for part := uint64(0); part <= million; part += 617 {
		wantShare(t, most, part, times(most, part, million), api.OK)
		wantShare(t, most-1, million-part, times(most-1, million-part, million), api.OK)
	}
}

// P4.2
func TestShareWrong(t *testing.T) {
	for _, part := range tooGreat() {
		for _, a := range amounts() {
			wantShare(t, a, part, 0, api.ErrArg)
		}
		for _, a := range tooMuch() {
			wantShare(t, a, part, 0, api.ErrArg)
		}
	}
	for _, a := range tooMuch() {
		for _, part := range portions() {
			wantShare(t, a, part, 0, api.ErrArg)
		}
	}
}

// P4.2
func TestFee(t *testing.T) {
	wantFee(t, 7, 1000, 5000, 12, api.OK)
	wantFee(t, 0, 0, 0, 0, api.OK)
	wantFee(t, 7, 0, 5000, 7, api.OK)
	wantFee(t, 0, 1000, 5000, 5, api.OK)
	wantFee(t, 7, 1000, 999, 7, api.OK)
	wantFee(t, 7, million, 5, 12, api.OK)
	for _, a := range amounts() {
		for _, part := range portions() {
			share := times(a, part, million)
			wantFee(t, 0, part, a, share, api.OK)
			wantFee(t, most-share, part, a, most, api.OK)
			if share < most {
				wantFee(t, 1, part, a, share+1, api.OK)
			}
			if share > 0 {
				wantFee(t, most-share+1, part, a, 0, api.ErrOver)
				wantFee(t, most, part, a, 0, api.ErrOver)
			}
		}
	}
}

// P4.2
func TestFeeAtTheMost(t *testing.T) {
	wantFee(t, most, 0, most, most, api.OK)
	wantFee(t, most, 1000, 999, most, api.OK)
	wantFee(t, most, 1000, 1000, 0, api.ErrOver)
	wantFee(t, most-5, 1000, 5000, most, api.OK)
	wantFee(t, most-4, 1000, 5000, 0, api.ErrOver)
	wantFee(t, 0, million, most, most, api.OK)
	wantFee(t, 1, million, most, 0, api.ErrOver)
	wantFee(t, most, million, most, 0, api.ErrOver)
	wantFee(t, most/2, 500000, most, most, api.OK)
	wantFee(t, most/2+1, 500000, most, 0, api.ErrOver)
}

// P4.2: what may not be is told ahead of too much, wherever it stands.
func TestFeeWrong(t *testing.T) {
	for _, n := range tooMuch() {
		for _, part := range portions() {
			for _, m := range []uint64{0, 5000, most} {
				wantFee(t, n, part, m, 0, api.ErrArg)
				wantFee(t, m, part, n, 0, api.ErrArg)
			}
			wantFee(t, n, part, n, 0, api.ErrArg)
		}
	}
	for _, part := range tooGreat() {
		for _, a := range []uint64{0, 1, 5000, most} {
			wantFee(t, 0, part, a, 0, api.ErrArg)
			wantFee(t, 7, part, a, 0, api.ErrArg)
			wantFee(t, most, part, a, 0, api.ErrArg)
			wantFee(t, most+1, part, a, 0, api.ErrArg)
		}
		wantFee(t, 7, part, most+1, 0, api.ErrArg)
	}
}

// P4.3
func TestSplit(t *testing.T) {
	for _, x := range []struct {
		a       uint64
		weights []uint64
		parts   []uint64
	}{
		{10, []uint64{1, 1, 1}, []uint64{3, 3, 4}},
		{11, []uint64{1, 1, 1}, []uint64{3, 4, 4}},
		{12, []uint64{1, 1, 1}, []uint64{4, 4, 4}},
		{10, []uint64{0, 3, 1}, []uint64{0, 7, 3}},
		{10, []uint64{3, 0, 1}, []uint64{7, 0, 3}},
		{10, []uint64{1, 3, 0}, []uint64{2, 8, 0}},
		{1, []uint64{1, 1}, []uint64{0, 1}},
		{1, []uint64{1, 0}, []uint64{1, 0}},
		{1, []uint64{1, 1, 0, 0}, []uint64{0, 1, 0, 0}},
		{2, []uint64{1, 1, 1, 1}, []uint64{0, 1, 0, 1}},
		{0, []uint64{5}, []uint64{0}},
		{0, []uint64{1, 0, 2}, []uint64{0, 0, 0}},
		{9, []uint64{1}, []uint64{9}},
		{9, []uint64{million}, []uint64{9}},
		{100, []uint64{million, 1}, []uint64{99, 1}},
		{100, []uint64{1, million}, []uint64{0, 100}},
		{most, []uint64{1}, []uint64{most}},
		{most, []uint64{million}, []uint64{most}},
		{most, []uint64{1, 1}, []uint64{most / 2, most / 2}},
		{most, []uint64{million, million}, []uint64{most / 2, most / 2}},
		{most, []uint64{1, 1, 1}, []uint64{1537228672809129301, 1537228672809129301, 1537228672809129302}},
	} {
		wantSplit(t, x.a, x.weights, x.parts, api.OK)
	}
}

// P4.3
func TestSplitAll(t *testing.T) {
	for _, a := range amounts() {
		for _, weights := range weighings() {
			wantSplit(t, a, weights, splitBy(a, weights), api.OK)
		}
	}
}

// P4.3
func TestSplitManyWeights(t *testing.T) {
	wantSplit(t, most, slices.Repeat([]uint64{1}, 64), slices.Repeat([]uint64{most / 64}, 64), api.OK)
	wantSplit(t, most, slices.Repeat([]uint64{million}, 64), slices.Repeat([]uint64{most / 64}, 64), api.OK)
	wantSplit(t, 128, slices.Repeat([]uint64{7}, 64), slices.Repeat([]uint64{2}, 64), api.OK)
	for _, n := range []int{65, 66, 128, 1000, 1 << 16} {
		for _, w := range []uint64{0, 1, million, million + 1, math.MaxUint64} {
			wantSplit(t, 10, slices.Repeat([]uint64{w}, n), nil, api.ErrArg)
		}
	}
}

// P4.3
func TestSplitWrong(t *testing.T) {
	for _, a := range []uint64{0, 1, 10, most, most + 1, math.MaxUint64} {
		wantSplit(t, a, nil, nil, api.ErrArg)
		wantSplit(t, a, []uint64{}, nil, api.ErrArg)
		for _, n := range []int{1, 2, 3, 63, 64, 65} {
			wantSplit(t, a, make([]uint64, n), nil, api.ErrArg)
		}
		for _, w := range tooGreat() {
			wantSplit(t, a, []uint64{w}, nil, api.ErrArg)
			wantSplit(t, a, []uint64{w, 1, 1}, nil, api.ErrArg)
			wantSplit(t, a, []uint64{1, w, 0}, nil, api.ErrArg)
			wantSplit(t, a, []uint64{1, 1, w}, nil, api.ErrArg)
			// Weights that would go around to 0, or to few, if they were added unasked.
			wantSplit(t, a, []uint64{w, -w}, nil, api.ErrArg)
			wantSplit(t, a, []uint64{1, w, -w}, nil, api.ErrArg)
			full := slices.Repeat([]uint64{million}, 64)
			full[63] = w
			wantSplit(t, a, full, nil, api.ErrArg)
		}
	}
	for _, a := range tooMuch() {
		for _, weights := range weighings() {
			wantSplit(t, a, weights, nil, api.ErrArg)
		}
	}
}

// P4.4: what was added is taken away again.
func TestAddedIsTakenAway(t *testing.T) {
	for _, a := range amounts() {
		for _, b := range amounts() {
			n, e := Add(a, b)
			if a+b > most {
				wantNumber(t, fmt.Sprintf("Add(%d, %d)", a, b), n, e, 0, api.ErrOver)
				continue
			}
			wantNumber(t, fmt.Sprintf("Add(%d, %d)", a, b), n, e, a+b, api.OK)
			wantSub(t, n, a, b, api.OK)
			wantSub(t, n, b, a, api.OK)
		}
	}
}

// P4.4: a share is no more than all of it.
func TestShareIsNoMore(t *testing.T) {
	for _, a := range amounts() {
		ahead := uint64(0)
		for _, part := range portions() {
			n, e := Share(a, part)
			if n > a || n < ahead || e != api.OK {
				t.Errorf("Share(%d, %d) = %d, %d, behind %d of a smaller part", a, part, n, e, ahead)
			}
			ahead = n
		}
	}
}

// wantWhole holds the parts of a split against the amount, and each against its share.
func wantWhole(t *testing.T, a uint64, weights []uint64) {
	t.Helper()
	parts, e := Split(a, weights)
	if e != api.OK || len(parts) != len(weights) || sum(parts).Cmp(great(a)) != 0 {
		t.Errorf("Split(%d, %v) = %v, %d", a, weights, parts, e)
		return
	}
	all := sum(weights)
	for i, w := range weights {
		// Both sides times all weights, so that nothing is left over: less than one away is less than all away.
		away := new(big.Int).Mul(great(parts[i]), all)
		away.Sub(away, new(big.Int).Mul(great(a), great(w)))
		if away.CmpAbs(all) >= 0 {
			t.Errorf("Split(%d, %v): part %d is %d", a, weights, i, parts[i])
		}
		if w == 0 && parts[i] != 0 {
			t.Errorf("Split(%d, %v): part %d of weight 0 is %d", a, weights, i, parts[i])
		}
	}
}

// P4.4: what is split is, together, what it was, and each part less than one away from its share.
func TestSplitIsWhole(t *testing.T) {
	for _, a := range amounts() {
		for _, weights := range weighings() {
			wantWhole(t, a, weights)
		}
	}
	for a := range uint64(40) {
		for w := range uint64(6 * 6 * 6) {
			if w > 0 {
				wantWhole(t, a, []uint64{w / 36, w / 6 % 6, w % 6})
			}
		}
	}
}

// R2
func TestAmountsStay(t *testing.T) {
	for _, kept := range [][]uint64{{3, 1, 2}, {most, 1}, {1, most + 1, 2}, amounts()} {
		l := slices.Clone(kept)
		Check(l...)
		Add(l...)
		if !slices.Equal(l, kept) {
			t.Errorf("amounts changed: %v; want %v", l, kept)
		}
	}
}

// R2
func TestSplitSharesNothing(t *testing.T) {
	room := []uint64{9, 3, 0, 1, 9, 9, 9}
	kept := slices.Clone(room)
	weights := room[1:4]
	parts, e := Split(10, weights)
	if e != api.OK || !slices.Equal(room, kept) {
		t.Fatalf("Split changed what it was handed: %v, %d; want %v", room, e, kept)
	}
	again, _ := Split(10, weights)
	clear(room)
	want := []uint64{7, 0, 3}
	if !slices.Equal(parts, want) {
		t.Errorf("what Split answered hangs on its weights: %v", parts)
	}
	clear(parts[:cap(parts)])
	if !slices.Equal(again, want) {
		t.Errorf("two answers share memory: %v", again)
	}
	room[1], room[3] = 3, 1
	clear(again[:cap(again)])
	if !slices.Equal(room, []uint64{0, 3, 0, 1, 0, 0, 0}) {
		t.Errorf("an answer shares memory with the weights: %v", room)
	}
	wantSplit(t, 10, weights, want, api.OK)
}

// R2: weights that may not be stay as they were too.
func TestWrongWeightsStay(t *testing.T) {
	for _, kept := range [][]uint64{{0, 0}, {1, million + 1, 2}, slices.Repeat([]uint64{1}, 65)} {
		weights := slices.Clone(kept)
		wantSplit(t, 10, weights, nil, api.ErrArg)
		if !slices.Equal(weights, kept) {
			t.Errorf("weights changed: %v; want %v", weights, kept)
		}
	}
}

// FuzzFee holds Add, Sub, Share and Fee against numbers of any size.
func FuzzFee(f *testing.F) {
	for _, a := range append(amounts(), tooMuch()...) {
		f.Add(a, uint64(1000), a/2)
		f.Add(uint64(7), a, uint64(most))
	}
	f.Fuzz(func(t *testing.T, base, part, a uint64) {
		if base > most || a > most {
			wantAdd(t, 0, api.ErrArg, base, a)
			wantSub(t, base, a, 0, api.ErrArg)
			wantFee(t, base, part, a, 0, api.ErrArg)
			return
		}
		if part > million {
			wantShare(t, a, part, 0, api.ErrArg)
			wantFee(t, base, part, a, 0, api.ErrArg)
			return
		}
		share := times(a, part, million)
		wantShare(t, a, part, share, api.OK)
		if base+share > most {
			wantFee(t, base, part, a, 0, api.ErrOver)
		} else {
			wantFee(t, base, part, a, base+share, api.OK)
			wantSub(t, base+share, share, base, api.OK)
		}
	})
}

// FuzzSplit holds Split against the chapter's words; each weight is made of three octets, so that some are above a million.
func FuzzSplit(f *testing.F) {
	f.Add(uint64(10), []byte{0, 0, 1, 0, 0, 1, 0, 0, 1})
	f.Add(uint64(most), []byte{15, 66, 64, 15, 66, 65})
	f.Add(uint64(most+1), []byte{0, 0, 0})
	f.Fuzz(func(t *testing.T, a uint64, b []byte) {
		var weights []uint64
		for ; len(b) >= 3; b = b[3:] {
			weights = append(weights, uint64(b[0])<<16|uint64(b[1])<<8|uint64(b[2]))
		}
		wrong := a > most || len(weights) > 64 || sum(weights).Sign() == 0
		for _, w := range weights {
			wrong = wrong || w > million
		}
		if wrong {
			wantSplit(t, a, weights, nil, api.ErrArg)
			return
		}
		wantSplit(t, a, weights, splitBy(a, weights), api.OK)
		wantWhole(t, a, weights)
	})
}
