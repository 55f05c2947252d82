package roots

import (
	"fmt"
	"maps"
	"math"
	"slices"
	"testing"

	"damson/api"
)

// full and the greatest number are written out, so that the tests do not lean on what they hold the program against.
const (
	full     = 64
	greatest = math.MaxUint64
)

func root(id, key uint64) api.RootKey { return api.RootKey{Id: id, Key: key} }

func gone(id, key uint64) api.RootKey { return api.RootKey{Id: id, Key: key, Gone: true} }

func row(l ...api.RootKey) []api.RootKey { return l }

// some are roots with both edges, one that is Gone, and keys that do not rise.
func some() []api.RootKey {
	return row(root(0, 50), root(2, greatest), gone(5, 30), root(9, 0), root(greatest-1, 10), root(greatest, 40))
}

// many are n roots of every third number from 3 on, the first one's key the greatest of n; each fifth one is Gone.
func many(n int) []api.RootKey {
	l := make([]api.RootKey, n)
	for i := range l {
		l[i] = api.RootKey{Id: uint64(3*i + 3), Key: uint64(1000 - i), Gone: i%5 == 4}
	}
	return l
}

// right are roots that may be.
func right() [][]api.RootKey {
	l := [][]api.RootKey{
		nil, {}, some(), {{}}, {{Gone: true}},
		{root(0, greatest)}, {root(greatest, 0)}, {root(greatest, greatest)}, {gone(greatest, greatest)},
		{root(0, 1), root(1, 0)}, {root(0, greatest), root(greatest, 0)}, {gone(1, 1), gone(2, 2), gone(3, 3)},
		// An Id that is another root's key is no key twice.
		{root(1, 2), root(2, 3), root(3, 1)}, {root(7, 7), root(8, 9), root(9, 8)},
		{root(1<<63-1, 1), root(1<<63, 2), root(1<<63+1, 3)},
	}
	for n := range full + 1 {
		l = append(l, many(n))
	}
	return l
}

// wrong are roots that may not be.
func wrong() map[string][]api.RootKey {
	m := map[string][]api.RootKey{
		"Ids fall":                      {root(2, 0), root(1, 1)},
		"Ids fall to 0":                 {root(greatest, 0), root(0, 1)},
		"Ids fall, beyond 63 bits":      {root(1<<63, 0), root(1<<63-1, 1)},
		"Ids fall at the end":           {root(1, 1), root(2, 2), root(4, 4), root(3, 3)},
		"Ids fall, one Gone":            {root(2, 0), gone(1, 1)},
		"one Id twice":                  {root(2, 0), root(2, 1)},
		"Id 0 twice":                    {root(0, 0), root(0, 1)},
		"the greatest Id twice":         {root(greatest, 0), root(greatest, 1)},
		"one Id twice, one Gone":        {gone(2, 0), root(2, 1)},
		"one Id twice, the second Gone": {root(2, 0), gone(2, 1)},
		"one Id twice, apart":           {root(2, 0), root(3, 1), root(2, 2)},
		"one Key twice":                 {root(1, 5), root(2, 5)},
		"Key 0 twice":                   {root(1, 0), root(2, 0)},
		"the greatest Key twice":        {root(1, greatest), root(2, greatest)},
		"one Key twice, one Gone":       {gone(1, 5), root(2, 5)},
		"one Key twice, second Gone":    {root(1, 5), gone(2, 5)},
		"one Key twice, both Gone":      {gone(1, 5), gone(2, 5)},
		"one Key twice, apart":          {root(1, 5), root(2, 6), root(3, 7), root(4, 5)},
		"twice the same":                {root(1, 5), root(1, 5)},
		"all zero twice":                {{}, {}},
		"one too many":                  many(full + 1),
		"two too many":                  many(full + 2),
		"much too many":                 many(900),
		"one too many, all zero":        make([]api.RootKey, full+1),
	}
	for _, n := range []int{6, full} {
		for i := range n {
			l := many(n)
			l[i].Id = l[(i+n/2)%n].Id
			m[fmt.Sprintf("an Id of %d twice at %d", n, i)] = l
			l = many(n)
			l[i].Key = l[(i+1)%n].Key
			m[fmt.Sprintf("a Key of %d twice at %d", n, i)] = l
			l = many(n)
			l[i].Key = l[n-1-i].Key
			if i != n-1-i {
				m[fmt.Sprintf("a Key of %d twice, apart, at %d", n, i)] = l
			}
			l = many(n)
			l[i], l[(i+1)%n] = l[(i+1)%n], l[i]
			m[fmt.Sprintf("two of %d changed about at %d", n, i)] = l
		}
	}
	return m
}

// numbers are such as are an Id or a Key of a root at the front, in the middle or at the end, and those beside them.
func numbers(l []api.RootKey) []uint64 {
	set := map[uint64]int{0: 0, 1: 0, greatest - 1: 0, greatest: 0}
	for i, r := range l {
		if i >= 3 && i < len(l)-3 && i != len(l)/2 {
			continue
		}
		for _, n := range []uint64{r.Id, r.Key} {
			set[n-1], set[n], set[n+1] = 0, 0, 0
		}
	}
	return slices.Sorted(maps.Keys(set))
}

// mayBe tells, in the chapter's words, whether roots may be.
func mayBe(l []api.RootKey) bool {
	if len(l) > full {
		return false
	}
	ids, keys := map[uint64]int{}, map[uint64]int{}
	least := uint64(0)
	for _, r := range l {
		ids[r.Id]++
		keys[r.Key]++
		if r.Id < least {
			return false
		}
		least = r.Id
	}
	return len(ids) == len(l) && len(keys) == len(l)
}

// find is the root of that number; the roots are gone through one by one.
func find(l []api.RootKey, id uint64) (api.RootKey, bool) {
	for _, r := range l {
		if r.Id == id {
			return r, true
		}
	}
	return api.RootKey{}, false
}

func used(l []api.RootKey, key uint64) bool {
	for _, r := range l {
		if r.Key == key {
			return true
		}
	}
	return false
}

// keyBy, addBy, turnBy and revokeBy are what the chapter's words tell.
func keyBy(l []api.RootKey, id uint64) (uint64, api.Errno) {
	r, there := find(l, id)
	switch {
	case !mayBe(l):
		return 0, api.ErrArg
	case !there:
		return 0, api.ErrNone
	case r.Gone:
		return 0, api.ErrOld
	}
	return r.Key, api.OK
}

func addBy(l []api.RootKey, id, key uint64) ([]api.RootKey, api.Errno) {
	if !mayBe(l) {
		return nil, api.ErrArg
	}
	if _, there := find(l, id); there || used(l, key) {
		return nil, api.ErrThere
	}
	if len(l) >= full {
		return nil, api.ErrFull
	}
	var told []api.RootKey
	for _, r := range l {
		if r.Id < id {
			told = append(told, r)
		}
	}
	told = append(told, root(id, key))
	for _, r := range l {
		if r.Id > id {
			told = append(told, r)
		}
	}
	return told, api.OK
}

func turnBy(l []api.RootKey, id, key uint64) ([]api.RootKey, api.Errno) {
	if _, e := keyBy(l, id); e != api.OK {
		return nil, e
	}
	if used(l, key) {
		return nil, api.ErrThere
	}
	var told []api.RootKey
	for _, r := range l {
		if r.Id == id {
			r.Key = key
		}
		told = append(told, r)
	}
	return told, api.OK
}

func revokeBy(l []api.RootKey, id uint64) ([]api.RootKey, api.Errno) {
	if _, e := keyBy(l, id); e != api.OK {
		return nil, e
	}
	var told []api.RootKey
	for _, r := range l {
		r.Gone = r.Gone || r.Id == id
		told = append(told, r)
	}
	return told, api.OK
}

// equal is worked out apart from Same.
func equal(a, b []api.RootKey) bool {
	if len(a) != len(b) {
		return false
	}
	for i := range a {
		if a[i].Id != b[i].Id || a[i].Key != b[i].Key || a[i].Gone != b[i].Gone {
			return false
		}
	}
	return true
}

// wipe writes over all roots, and those behind their end.
func wipe(l []api.RootKey) {
	l = l[:cap(l)]
	for i := range l {
		l[i] = gone(99, 99)
	}
}

func wantKey(t *testing.T, l []api.RootKey, id, want uint64, wantE api.Errno) {
	t.Helper()
	if k, e := Key(l, id); k != want || e != wantE {
		t.Errorf("Key(%v, %d) = %d, %d; want %d, %d", l, id, k, e, want, wantE)
	}
}

// wantRoots takes the call by its parts, as it is written out only where it is told.
func wantRoots(t *testing.T, got []api.RootKey, e api.Errno, want []api.RootKey, wantE api.Errno, call string, handed ...any) {
	t.Helper()
	if !equal(got, want) || e != wantE {
		t.Errorf("%s%v = %v, %d; want %v, %d", call, handed, got, e, want, wantE)
	}
}

func wantAdd(t *testing.T, l []api.RootKey, id, key uint64, want []api.RootKey, wantE api.Errno) {
	t.Helper()
	got, e := Add(l, id, key)
	wantRoots(t, got, e, want, wantE, "Add", l, id, key)
}

func wantTurn(t *testing.T, l []api.RootKey, id, key uint64, want []api.RootKey, wantE api.Errno) {
	t.Helper()
	got, e := Turn(l, id, key)
	wantRoots(t, got, e, want, wantE, "Turn", l, id, key)
}

func wantRevoke(t *testing.T, l []api.RootKey, id uint64, want []api.RootKey, wantE api.Errno) {
	t.Helper()
	got, e := Revoke(l, id)
	wantRoots(t, got, e, want, wantE, "Revoke", l, id)
}

// P8.1
func TestCheck(t *testing.T) {
	for _, l := range right() {
		if e := Check(l); e != api.OK {
			t.Errorf("Check(%v) = %d", l, e)
		}
	}
	for name, l := range wrong() {
		if e := Check(l); e != api.ErrArg {
			t.Errorf("%s: Check(%v) = %d", name, l, e)
		}
	}
}

// P8.1: how many there may be.
func TestCheckHowMany(t *testing.T) {
	for n := range 3 * full {
		want := api.OK
		if n > full {
			want = api.ErrArg
		}
		if e := Check(many(n)); e != want {
			t.Errorf("Check of %d roots = %d; want %d", n, e, want)
		}
	}
}

// P8.1: each pair of places, with one Id, or one Key, at both, whether one is Gone or not.
func TestCheckEachPair(t *testing.T) {
	for i := range full {
		for j := range i {
			for _, x := range []struct{ a, b bool }{{false, false}, {true, false}, {false, true}, {true, true}} {
				l := many(full)
				l[i].Gone, l[j].Gone = x.a, x.b
				if e := Check(l); e != api.OK {
					t.Errorf("Check, places %d and %d Gone = %v = %d", j, i, x, e)
				}
				l[i].Key = l[j].Key
				if e := Check(l); e != api.ErrArg {
					t.Errorf("Check, one Key at %d and %d, Gone = %v = %d", j, i, x, e)
				}
				l = many(full)
				l[i].Gone, l[j].Gone = x.a, x.b
				l[i].Id = l[j].Id
				if e := Check(l); e != api.ErrArg {
					t.Errorf("Check, one Id at %d and %d, Gone = %v = %d", j, i, x, e)
				}
			}
		}
	}
}

// P8.1
func TestSame(t *testing.T) {
	if !Same(nil, []api.RootKey{}) || !Same([]api.RootKey{}, nil) || !Same(nil, nil) {
		t.Error("no roots are not the same as none")
	}
	// Roots that may not be are held against others too, as Same tells no error.
	rows := right()
	for _, l := range wrong() {
		rows = append(rows, l)
	}
	for i, l := range rows {
		if !Same(l, slices.Clone(l)) {
			t.Errorf("%v are not the same as themselves", l)
		}
		for _, m := range rows[:i] {
			if Same(l, m) != equal(l, m) || Same(m, l) != equal(l, m) {
				t.Errorf("Same(%v, %v) is wrong", l, m)
			}
		}
	}
}

// P8.1: each part tells two rows apart, and so do their order and how many there are.
func TestSameTellsApart(t *testing.T) {
	for i := range some() {
		for k, change := range []func(l []api.RootKey) []api.RootKey{
			func(l []api.RootKey) []api.RootKey { l[i].Id ^= 1; return l },
			func(l []api.RootKey) []api.RootKey { l[i].Id ^= 1 << 63; return l },
			func(l []api.RootKey) []api.RootKey { l[i].Key ^= 1; return l },
			func(l []api.RootKey) []api.RootKey { l[i].Key ^= 1 << 63; return l },
			func(l []api.RootKey) []api.RootKey { l[i].Gone = !l[i].Gone; return l },
			func(l []api.RootKey) []api.RootKey { l[i].Id, l[i].Key = l[i].Key, l[i].Id; return l },
			func(l []api.RootKey) []api.RootKey { return l[:i] },
			func(l []api.RootKey) []api.RootKey { return slices.Delete(l, i, i+1) },
			func(l []api.RootKey) []api.RootKey { return slices.Insert(l, i, l[i]) },
			func(l []api.RootKey) []api.RootKey { return append(l, api.RootKey{}) },
			func(l []api.RootKey) []api.RootKey { l[i], l[(i+1)%len(l)] = l[(i+1)%len(l)], l[i]; return l },
		} {
			l := change(some())
			if Same(l, some()) || Same(some(), l) {
				t.Errorf("change %d at %d is not seen", k, i)
			}
		}
	}
}

// P8.1
func TestKey(t *testing.T) {
	for _, x := range []struct {
		l    []api.RootKey
		id   uint64
		want uint64
		e    api.Errno
	}{
		{nil, 0, 0, api.ErrNone}, {nil, 1, 0, api.ErrNone}, {nil, greatest, 0, api.ErrNone},
		{row(root(7, 70)), 7, 70, api.OK}, {row(root(7, 70)), 6, 0, api.ErrNone}, {row(root(7, 70)), 8, 0, api.ErrNone},
		{row(root(7, 70)), 70, 0, api.ErrNone}, {row(root(7, 70)), 0, 0, api.ErrNone}, {row(root(7, 70)), greatest, 0, api.ErrNone},
		{row(gone(7, 70)), 7, 0, api.ErrOld}, {row(gone(7, 70)), 8, 0, api.ErrNone}, {row(gone(0, 0)), 0, 0, api.ErrOld},
		{row(root(0, 0)), 0, 0, api.OK}, {row(root(greatest, greatest)), greatest, greatest, api.OK},
		{some(), 0, 50, api.OK}, {some(), 2, greatest, api.OK}, {some(), 5, 0, api.ErrOld}, {some(), 9, 0, api.OK},
		{some(), greatest - 1, 10, api.OK}, {some(), greatest, 40, api.OK},
		{some(), 1, 0, api.ErrNone}, {some(), 3, 0, api.ErrNone}, {some(), 8, 0, api.ErrNone}, {some(), 10, 0, api.ErrNone},
		{some(), greatest - 2, 0, api.ErrNone}, {some(), 50, 0, api.ErrNone},
	} {
		wantKey(t, x.l, x.id, x.want, x.e)
	}
}

// P8.1, P8.2: each call, of each number that the roots have and those beside them.
func TestByTheWords(t *testing.T) {
	rows := [][]api.RootKey{nil, {}, some(), many(1), many(2), many(7), many(full - 1), many(full)}
	for _, name := range []string{"Ids fall", "one Id twice", "one Key twice, apart", "one Key twice, both Gone", "one too many"} {
		rows = append(rows, wrong()[name])
	}
	for _, l := range rows {
		holdAll(t, l, numbers(l))
	}
}

// holdAll holds each call against the chapter's words, of those numbers.
func holdAll(t *testing.T, l []api.RootKey, numbers []uint64) {
	t.Helper()
	stays := slices.Clone(l)
	for _, id := range numbers {
		key, e := keyBy(l, id)
		wantKey(t, l, id, key, e)
		want, e := revokeBy(l, id)
		wantRevoke(t, l, id, want, e)
		for _, key := range numbers {
			want, e := addBy(l, id, key)
			wantAdd(t, l, id, key, want, e)
			want, e = turnBy(l, id, key)
			wantTurn(t, l, id, key, want, e)
		}
	}
	if !equal(l, stays) {
		t.Errorf("what was handed in changed: %v; want %v", l, stays)
	}
}

// P8.1, P8.2: all rows of up to three roots of few numbers, those that may not be among them.
func TestAllSmallRows(t *testing.T) {
	few := []uint64{0, 1, greatest}
	var roots []api.RootKey
	for _, id := range few {
		for _, key := range few {
			roots = append(roots, root(id, key), gone(id, key))
		}
	}
	asked := []uint64{0, 1, 2, greatest}
	rows := [][]api.RootKey{nil}
	for range 3 {
		var longer [][]api.RootKey
		for _, l := range rows {
			want := api.ErrArg
			if mayBe(l) {
				want = api.OK
			}
			if e := Check(l); e != want {
				t.Errorf("Check(%v) = %d; want %d", l, e, want)
			}
			holdAll(t, l, asked)
			for _, r := range roots {
				longer = append(longer, append(slices.Clone(l), r))
			}
		}
		rows = longer
	}
	for _, l := range rows {
		holdAll(t, l, asked)
	}
}

// P8.2
func TestAdd(t *testing.T) {
	three := row(root(2, 20), gone(5, 50), root(8, 80))
	for _, x := range []struct {
		l       []api.RootKey
		id, key uint64
		want    []api.RootKey
		e       api.Errno
	}{
		{nil, 5, 50, row(root(5, 50)), api.OK}, {row(), 5, 50, row(root(5, 50)), api.OK},
		{nil, 0, 0, row(root(0, 0)), api.OK}, {nil, greatest, greatest, row(root(greatest, greatest)), api.OK},
		{nil, 0, greatest, row(root(0, greatest)), api.OK}, {nil, greatest, 0, row(root(greatest, 0)), api.OK},
		{three, 1, 10, row(root(1, 10), root(2, 20), gone(5, 50), root(8, 80)), api.OK},
		{three, 0, 81, row(root(0, 81), root(2, 20), gone(5, 50), root(8, 80)), api.OK},
		{three, 3, 0, row(root(2, 20), root(3, 0), gone(5, 50), root(8, 80)), api.OK},
		{three, 6, greatest, row(root(2, 20), gone(5, 50), root(6, greatest), root(8, 80)), api.OK},
		{three, 9, 1, row(root(2, 20), gone(5, 50), root(8, 80), root(9, 1)), api.OK},
		{three, greatest, 2, row(root(2, 20), gone(5, 50), root(8, 80), root(greatest, 2)), api.OK},
		// A number may be both an Id and another's Key.
		{three, 20, 2, row(root(2, 20), gone(5, 50), root(8, 80), root(20, 2)), api.OK},
		{three, 2, 90, nil, api.ErrThere}, {three, 5, 90, nil, api.ErrThere}, {three, 8, 90, nil, api.ErrThere},
		{three, 3, 20, nil, api.ErrThere}, {three, 3, 50, nil, api.ErrThere}, {three, 3, 80, nil, api.ErrThere},
		{three, 2, 20, nil, api.ErrThere}, {three, 5, 50, nil, api.ErrThere}, {three, 8, 20, nil, api.ErrThere},
		{row(gone(0, 0)), 0, 1, nil, api.ErrThere}, {row(gone(0, 0)), 1, 0, nil, api.ErrThere},
	} {
		wantAdd(t, x.l, x.id, x.key, x.want, x.e)
	}
}

// P8.2: up to MaxRoots, and that one that is there, or has that Key, is told ahead of that.
func TestAddWhenFull(t *testing.T) {
	var l []api.RootKey
	for i := range uint64(full) {
		next, e := Add(l, greatest-i, i)
		if e != api.OK || len(next) != int(i)+1 {
			t.Fatalf("root %d: %d roots, %d", i, len(next), e)
		}
		l = next
	}
	if Check(l) != api.OK || !slices.IsSortedFunc(l, func(a, b api.RootKey) int { return int(b.Key) - int(a.Key) }) {
		t.Errorf("got %v", l)
	}
	revoked := slices.Clone(l)
	for i := range revoked {
		revoked[i].Gone = true
	}
	for _, l := range [][]api.RootKey{l, revoked} {
		for _, free := range []uint64{0, 1, 500, greatest - full} {
			wantAdd(t, l, free, full, nil, api.ErrFull)
			wantAdd(t, l, free, greatest, nil, api.ErrFull)
			for _, there := range []uint64{0, 1, 31, full - 1} {
				wantAdd(t, l, greatest-there, 500, nil, api.ErrThere)
				wantAdd(t, l, free, there, nil, api.ErrThere)
				wantAdd(t, l, greatest-there, there, nil, api.ErrThere)
			}
		}
	}
	wantAdd(t, l[:full-1], greatest, full, append(slices.Clone(l[:full-1]), root(greatest, full)), api.OK)
}

// P8.2
func TestTurn(t *testing.T) {
	three := row(root(2, 20), root(5, 50), gone(8, 80))
	for _, x := range []struct {
		l       []api.RootKey
		id, key uint64
		want    []api.RootKey
		e       api.Errno
	}{
		{nil, 0, 0, nil, api.ErrNone}, {nil, 5, 50, nil, api.ErrNone},
		{row(root(7, 70)), 7, 71, row(root(7, 71)), api.OK}, {row(root(0, 1)), 0, 0, row(root(0, 0)), api.OK},
		{row(root(greatest, 0)), greatest, greatest, row(root(greatest, greatest)), api.OK},
		{row(root(7, 70)), 7, 7, row(root(7, 7)), api.OK},
		{three, 2, 10, row(root(2, 10), root(5, 50), gone(8, 80)), api.OK},
		{three, 2, greatest, row(root(2, greatest), root(5, 50), gone(8, 80)), api.OK},
		{three, 5, 0, row(root(2, 20), root(5, 0), gone(8, 80)), api.OK},
		{three, 5, 2, row(root(2, 20), root(5, 2), gone(8, 80)), api.OK},
		{row(root(1, 1), root(2, 2), root(3, 3)), 3, 9, row(root(1, 1), root(2, 2), root(3, 9)), api.OK},
		// The key that it has itself, one of another, and one of a root that is Gone.
		{three, 2, 20, nil, api.ErrThere}, {three, 5, 50, nil, api.ErrThere}, {row(root(7, 70)), 7, 70, nil, api.ErrThere},
		{three, 2, 50, nil, api.ErrThere}, {three, 5, 20, nil, api.ErrThere},
		{three, 2, 80, nil, api.ErrThere}, {three, 5, 80, nil, api.ErrThere},
		// No such root, ahead of a key that one has.
		{three, 3, 90, nil, api.ErrNone}, {three, 3, 20, nil, api.ErrNone}, {three, 0, 80, nil, api.ErrNone}, {three, 9, 50, nil, api.ErrNone},
		// One that is Gone, ahead of a key that one has.
		{three, 8, 90, nil, api.ErrOld}, {three, 8, 80, nil, api.ErrOld}, {three, 8, 20, nil, api.ErrOld}, {three, 8, 50, nil, api.ErrOld},
	} {
		wantTurn(t, x.l, x.id, x.key, x.want, x.e)
	}
}

// P8.2
func TestRevoke(t *testing.T) {
	three := row(root(2, 20), root(5, 50), root(8, 80))
	for _, x := range []struct {
		l    []api.RootKey
		id   uint64
		want []api.RootKey
		e    api.Errno
	}{
		{nil, 0, nil, api.ErrNone}, {nil, 5, nil, api.ErrNone},
		{row(root(7, 70)), 7, row(gone(7, 70)), api.OK}, {row(root(0, 0)), 0, row(gone(0, 0)), api.OK},
		{row(root(greatest, greatest)), greatest, row(gone(greatest, greatest)), api.OK},
		{three, 2, row(gone(2, 20), root(5, 50), root(8, 80)), api.OK},
		{three, 5, row(root(2, 20), gone(5, 50), root(8, 80)), api.OK},
		{three, 8, row(root(2, 20), root(5, 50), gone(8, 80)), api.OK},
		{three, 3, nil, api.ErrNone}, {three, 20, nil, api.ErrNone}, {three, 0, nil, api.ErrNone}, {three, greatest, nil, api.ErrNone},
		{row(gone(7, 70)), 7, nil, api.ErrOld}, {row(gone(7, 70), root(8, 80)), 8, row(gone(7, 70), gone(8, 80)), api.OK},
	} {
		wantRevoke(t, x.l, x.id, x.want, x.e)
	}
}

// P8.1, P8.2: each place of full roots.
func TestEachPlace(t *testing.T) {
	for i, r := range many(full) {
		if r.Gone {
			wantKey(t, many(full), r.Id, 0, api.ErrOld)
			wantTurn(t, many(full), r.Id, 5, nil, api.ErrOld)
			wantRevoke(t, many(full), r.Id, nil, api.ErrOld)
			continue
		}
		wantKey(t, many(full), r.Id, r.Key, api.OK)
		want := many(full)
		want[i].Key = 5
		wantTurn(t, many(full), r.Id, 5, want, api.OK)
		want = many(full)
		want[i].Gone = true
		wantRevoke(t, many(full), r.Id, want, api.OK)
	}
}

// P8.1, P8.2: roots that may not be are told ahead of all else, also where the one that is asked for stands at a right place.
func TestWrongRoots(t *testing.T) {
	for name, l := range wrong() {
		stays := slices.Clone(l)
		for _, id := range []uint64{l[0].Id, l[len(l)/2].Id, l[len(l)-1].Id, 0, 77777, greatest} {
			wantKey(t, l, id, 0, api.ErrArg)
			wantRevoke(t, l, id, nil, api.ErrArg)
			for _, key := range []uint64{l[0].Key, l[len(l)-1].Key, 77777, 0, greatest} {
				wantAdd(t, l, id, key, nil, api.ErrArg)
				wantTurn(t, l, id, key, nil, api.ErrArg)
			}
		}
		if !equal(l, stays) {
			t.Errorf("%s: what was handed in changed: %v; want %v", name, l, stays)
		}
	}
}

// step is one thing that is done with roots.
type step struct {
	name    string
	id, key uint64
}

func (s step) do(l []api.RootKey) ([]api.RootKey, api.Errno) {
	switch s.name {
	case "add":
		return Add(l, s.id, s.key)
	case "turn":
		return Turn(l, s.id, s.key)
	}
	return Revoke(l, s.id)
}

// steps are all that may be done with three roots and three keys.
func steps() []step {
	var l []step
	for _, id := range []uint64{4, 5, 7} {
		for _, key := range []uint64{0, 1, 6} {
			l = append(l, step{"add", id, key}, step{"turn", id, key})
		}
		l = append(l, step{"revoke", id, 0})
	}
	return l
}

// wantStep holds roots after a step against those ahead of it: one that was revoked stays as it was, no two have one key, and only the one that was asked for is another one.
func wantStep(t *testing.T, s step, ahead, after []api.RootKey) {
	t.Helper()
	if !mayBe(after) || len(after) < len(ahead) || len(after) > len(ahead)+1 {
		t.Errorf("%v of %v: %v", s, ahead, after)
	}
	for _, r := range ahead {
		is, there := find(after, r.Id)
		if !there || (r.Gone || r.Id != s.id) && is != r {
			t.Errorf("%v of %v: %v; root %d is another one", s, ahead, after, r.Id)
		}
		if _, e := Key(after, r.Id); r.Gone && e != api.ErrOld {
			t.Errorf("%v of %v: %v; root %d has a key: %d", s, ahead, after, r.Id, e)
		}
	}
	for _, r := range after {
		if _, there := find(ahead, r.Id); !there && (s.name != "add" || r != root(s.id, s.key)) {
			t.Errorf("%v of %v: %v; root %d came", s, ahead, after, r.Id)
		}
	}
}

// P8.3: all ways of at most five steps.
func TestWhatFollows(t *testing.T) {
	rows := [][]api.RootKey{nil, row(root(2, 5), gone(5, 6), root(9, 7))}
	for range 5 {
		var later [][]api.RootKey
		for _, l := range rows {
			for _, s := range steps() {
				after, e := s.do(l)
				if e != api.OK {
					if len(after) > 0 {
						t.Errorf("%v of %v: %v beside %d", s, l, after, e)
					}
					continue
				}
				wantStep(t, s, l, after)
				later = append(later, after)
			}
		}
		rows = later
	}
	if len(rows) < 1000 {
		t.Errorf("only %d ways went on", len(rows))
	}
}

// P8.3: a root that is revoked stays so, whatever is done with it.
func TestRevokedStays(t *testing.T) {
	for i, r := range many(full - 1) {
		if r.Gone {
			continue
		}
		l, e := Revoke(many(full-1), r.Id)
		want := many(full - 1)
		want[i].Gone = true
		wantRoots(t, l, e, want, api.OK, "Revoke", r.Id)
		wantKey(t, l, r.Id, 0, api.ErrOld)
		wantRevoke(t, l, r.Id, nil, api.ErrOld)
		wantTurn(t, l, r.Id, 1, nil, api.ErrOld)
		wantTurn(t, l, r.Id, r.Key, nil, api.ErrOld)
		wantAdd(t, l, r.Id, 1, nil, api.ErrThere)
		wantAdd(t, l, r.Id, r.Key, nil, api.ErrThere)
		// Its key is used, though it has none any more.
		wantAdd(t, l, 1, r.Key, nil, api.ErrThere)
		other := uint64(3)
		if r.Id == other {
			other = 6
		}
		wantTurn(t, l, other, r.Key, nil, api.ErrThere)
	}
}

// P8.3: a key that a root was turned away from is no root's, and only that is asked for.
func TestTurnedAwayKeyIsFree(t *testing.T) {
	l := row(root(2, 20), root(5, 50))
	turned, e := Turn(l, 2, 21)
	wantRoots(t, turned, e, row(root(2, 21), root(5, 50)), api.OK, "Turn", l, 2, 21)
	wantTurn(t, turned, 5, 20, row(root(2, 21), root(5, 20)), api.OK)
	wantTurn(t, turned, 2, 20, l, api.OK)
	wantAdd(t, turned, 7, 20, row(root(2, 21), root(5, 50), root(7, 20)), api.OK)
	wantAdd(t, turned, 7, 21, nil, api.ErrThere)
}

// The chapter's example.
func TestRevokedHasNoKey(t *testing.T) {
	l, e := Add(nil, 1, 9)
	wantRoots(t, l, e, row(root(1, 9)), api.OK, "Add", nil, 1, 9)
	l, e = Revoke(l, 1)
	wantRoots(t, l, e, row(gone(1, 9)), api.OK, "Revoke", l, 1)
	wantKey(t, l, 1, 0, api.ErrOld)
}

// calls are those that answer roots, where each is right of some().
func calls() map[string]func(l []api.RootKey) []api.RootKey {
	first := func(l []api.RootKey, _ api.Errno) []api.RootKey { return l }
	return map[string]func(l []api.RootKey) []api.RootKey{
		"Add at the front":  func(l []api.RootKey) []api.RootKey { return first(Add(l, 1, 1)) },
		"Add in the middle": func(l []api.RootKey) []api.RootKey { return first(Add(l, 7, 1)) },
		"Add at the end":    func(l []api.RootKey) []api.RootKey { return first(Add(l[:4], 10, 1)) },
		"Turn the first":    func(l []api.RootKey) []api.RootKey { return first(Turn(l, 0, 1)) },
		"Turn the last":     func(l []api.RootKey) []api.RootKey { return first(Turn(l, greatest, 1)) },
		"Revoke the first":  func(l []api.RootKey) []api.RootKey { return first(Revoke(l, 0)) },
		"Revoke the last":   func(l []api.RootKey) []api.RootKey { return first(Revoke(l, greatest)) },
	}
}

// R2: what is told is new, and what is handed in stays as it was, also behind its end.
func TestToldIsNew(t *testing.T) {
	for name, call := range calls() {
		room := append(slices.Concat(row(root(77, 77)), some()), root(88, 88), root(89, 89), root(90, 90))
		kept := slices.Clone(room)
		l := room[1 : len(some())+1]
		told, again := call(l), call(l)
		want := slices.Clone(told)
		if len(told) == 0 || !equal(told, again) {
			t.Fatalf("%s: %v, and then %v", name, told, again)
		}
		if !equal(room, kept) {
			t.Errorf("%s changed what it was handed: %v; want %v", name, room, kept)
		}
		wipe(room)
		if !equal(told, want) {
			t.Errorf("%s: what was told hangs on what was handed in: %v", name, told)
		}
		copy(room, kept)
		wipe(told)
		if !equal(again, want) || !equal(room, kept) {
			t.Errorf("%s: what was told shares memory: %v, %v", name, again, room)
		}
	}
}

// R2: the other calls, and those that tell an error, change nothing.
func TestHandedInStays(t *testing.T) {
	rows := right()
	for _, l := range wrong() {
		rows = append(rows, l)
	}
	for _, kept := range rows {
		room := append(slices.Clone(kept), root(88, 88), root(89, 89))
		l := room[:len(kept)]
		Check(l)
		Same(l, kept)
		for _, n := range []uint64{0, 3, 5, 9, 1000, greatest} {
			Key(l, n)
			Revoke(l, n)
			for _, key := range []uint64{0, 1, 30, 1000, greatest} {
				Add(l, n, key)
				Turn(l, n, key)
			}
		}
		if !equal(l, kept) || !equal(room[len(kept):], row(root(88, 88), root(89, 89))) {
			t.Errorf("what was handed in changed: %v; want %v", room, kept)
		}
	}
}

// FuzzRoots holds all calls against the chapter's words; each root is made of three octets.
func FuzzRoots(f *testing.F) {
	f.Add([]byte{2, 20, 0, 5, 50, 1, 9, 90, 0}, uint64(5), uint64(50))
	f.Add([]byte{2, 20, 0, 2, 21, 0}, uint64(2), uint64(20))
	f.Add([]byte{1, 20, 0, 2, 20, 1}, uint64(3), uint64(4))
	f.Fuzz(func(t *testing.T, b []byte, id, key uint64) {
		var l []api.RootKey
		for ; len(b) >= 3; b = b[3:] {
			l = append(l, api.RootKey{Id: uint64(b[0]), Key: uint64(b[1]), Gone: b[2]%2 == 1})
		}
		if is := Check(l) == api.OK; is != mayBe(l) {
			t.Errorf("Check(%v) is wrong", l)
		}
		holdAll(t, l, []uint64{id, key, id % 256, key % 256})
	})
}
