package arena

import (
	"bytes"
	"fmt"
	"math"
	"slices"
	"strings"
	"testing"

	"damson/api"
)

// longest and full are written out, so that the tests do not lean on what they hold the program against.
const (
	longest = 4096
	full    = 1048576
)

// octets are n that differ from place to place.
func octets(n int) []byte {
	b := make([]byte, n)
	for i := range b {
		b[i] = byte(i%251 + 1)
	}
	return b
}

func root(key uint64, text string) api.Term { return api.Term{Key: key, Up: -1, Text: []byte(text)} }

func next(up int, text string) api.Term { return api.Term{Up: up, Text: []byte(text)} }

func arenaOf(l ...api.Term) api.Arena { return api.Arena{L: l} }

// some is an arena with two roots of one text, two keys' edges, and texts that stand at several places.
func some() api.Arena {
	return arenaOf(
		root(7, "id"), next(0, "one"), next(1, "two"), next(0, "two"), next(2, "two"),
		root(0, ""), next(5, ""), next(6, ""), root(math.MaxUint64, "id"), next(8, "one"), root(7, ""), root(0, "id"),
	)
}

// roots are n of them, each of another key.
func roots(n int) api.Arena {
	l := make([]api.Term, n)
	for i := range l {
		l[i] = api.Term{Key: uint64(i), Up: -1}
	}
	return api.Arena{L: l}
}

// chain is one root, of key 7, and n-1 terms that each come of the one ahead.
func chain(n int) api.Arena {
	l := make([]api.Term, n)
	for i := range l {
		l[i] = api.Term{Up: i - 1}
	}
	l[0].Key = 7
	return api.Arena{L: l}
}

// wrong are arenas that may not be.
func wrong() map[string]api.Arena {
	long := string(octets(longest + 1))
	m := map[string]api.Arena{
		"up is -2":                      arenaOf(next(-2, "")),
		"up is the least number":        arenaOf(next(math.MinInt, "")),
		"up is the greatest number":     arenaOf(root(1, ""), next(math.MaxInt, "")),
		"up is its own place":           arenaOf(next(0, "")),
		"up is its own place, behind":   arenaOf(root(1, ""), next(1, "")),
		"up is a later place":           arenaOf(root(1, ""), next(2, ""), next(0, "")),
		"up is a later place, at first": arenaOf(next(1, ""), root(1, "")),
		"up is one behind all":          arenaOf(root(1, ""), next(2, "")),
		"each of the other":             arenaOf(next(1, ""), next(0, "")),
		"two same roots":                arenaOf(root(1, "a"), root(1, "a")),
		"two same roots, apart":         arenaOf(root(1, "a"), root(2, "a"), next(0, "a"), root(1, "a")),
		"two same roots of key 0":       arenaOf(root(0, ""), root(0, "")),
		"two same of one":               arenaOf(root(1, "a"), next(0, "b"), next(0, "b")),
		"two same of one, apart":        arenaOf(root(1, "a"), next(0, "b"), next(1, "b"), next(0, "c"), next(0, "b")),
		"two same without text":         arenaOf(root(1, "a"), next(0, ""), next(0, "")),
		"two same, one text nil":        arenaOf(api.Term{Up: -1}, api.Term{Up: -1, Text: []byte{}}),
		"two same of the longest text":  arenaOf(root(1, long[1:]), root(1, long[1:])),
		"key beside an up":              arenaOf(root(1, ""), api.Term{Key: 1, Up: 0}),
		"greatest key beside an up":     arenaOf(root(1, ""), next(0, ""), api.Term{Key: math.MaxUint64, Up: 1}),
		"root's text too long":          arenaOf(root(1, long)),
		"text too long":                 arenaOf(root(1, ""), next(0, long)),
		"text much too long":            arenaOf(root(1, ""), next(0, strings.Repeat(long, 20))),
		"one root too many":             roots(full + 1),
		"one of a chain too many":       chain(full + 1),
	}
	for i := range some().L {
		a := some()
		a.L[i].Up = -2
		m[fmt.Sprintf("up is -2 at %d", i)] = a
		a = some()
		a.L[i].Text = octets(longest + 1)
		m[fmt.Sprintf("text too long at %d", i)] = a
		m[fmt.Sprintf("twice %d", i)] = arenaOf(append(some().L, some().L[i])...)
	}
	return m
}

// equal is worked out apart from Same.
func equal(a, b api.Arena) bool {
	if len(a.L) != len(b.L) {
		return false
	}
	for i, x := range a.L {
		y := b.L[i]
		if x.Key != y.Key || x.Up != y.Up || string(x.Text) != string(y.Text) {
			return false
		}
	}
	return true
}

func clone(a api.Arena) api.Arena {
	l := slices.Clone(a.L)
	for i := range l {
		l[i].Text = bytes.Clone(l[i].Text)
	}
	return api.Arena{L: l}
}

// wipe writes over all octets, and those behind their end.
func wipe(b []byte) {
	b = b[:cap(b)]
	for i := range b {
		b[i] ^= 0xff
	}
}

// wipeArena writes over all texts and terms, and those behind their end.
func wipeArena(a api.Arena) {
	l := a.L[:cap(a.L)]
	for i := range l {
		wipe(l[i].Text)
		l[i] = api.Term{Key: 99, Up: 99}
	}
}

// brief tells an arena that is not too great to be read.
func brief(a api.Arena) string {
	if len(a.L) > 16 {
		return fmt.Sprintf("%d terms", len(a.L))
	}
	var s []string
	for _, t := range a.L {
		s = append(s, fmt.Sprintf("%d:%d:%.12q(%d)", t.Key, t.Up, t.Text, len(t.Text)))
	}
	return "[" + strings.Join(s, " ") + "]"
}

func wantMade(t *testing.T, call string, a api.Arena, tag int, e api.Errno, want api.Arena, wantTag int, wantE api.Errno) {
	t.Helper()
	if !equal(a, want) || tag != wantTag || e != wantE {
		t.Errorf("%s = %s, %d, %d; want %s, %d, %d", call, brief(a), tag, e, brief(want), wantTag, wantE)
	}
}

func wantRoot(t *testing.T, a api.Arena, key uint64, text string, want api.Arena, wantTag int, wantE api.Errno) {
	t.Helper()
	got, tag, e := Root(a, key, []byte(text))
	wantMade(t, fmt.Sprintf("Root(%s, %d, %.12q)", brief(a), key, text), got, tag, e, want, wantTag, wantE)
}

func wantNext(t *testing.T, a api.Arena, up int, text string, want api.Arena, wantTag int, wantE api.Errno) {
	t.Helper()
	got, tag, e := Next(a, up, []byte(text))
	wantMade(t, fmt.Sprintf("Next(%s, %d, %.12q)", brief(a), up, text), got, tag, e, want, wantTag, wantE)
}

// texts are lists of octets.
func texts(l ...string) [][]byte {
	var out [][]byte
	for _, s := range l {
		out = append(out, []byte(s))
	}
	return out
}

func equalTexts(a, b [][]byte) bool { return slices.EqualFunc(a, b, bytes.Equal) }

// wantFind takes the root's text as the first of l.
func wantFind(t *testing.T, a api.Arena, key uint64, l [][]byte, want int, wantE api.Errno) {
	t.Helper()
	if tag, e := Find(a, key, l[0], l[1:]); tag != want || e != wantE {
		t.Errorf("Find(%s, %d, %.60q) = %d, %d; want %d, %d", brief(a), key, l, tag, e, want, wantE)
	}
}

func wantPath(t *testing.T, a api.Arena, tag int, wantKey uint64, want [][]byte, wantE api.Errno) {
	t.Helper()
	key, l, e := Path(a, tag)
	if key != wantKey || !equalTexts(l, want) || e != wantE {
		t.Errorf("Path(%s, %d) = %d, %.60q, %d; want %d, %.60q, %d", brief(a), tag, key, l, e, wantKey, want, wantE)
	}
}

// P5.1
func TestCheck(t *testing.T) {
	long := string(octets(longest))
	for _, a := range []api.Arena{
		{}, {L: []api.Term{}}, some(),
		arenaOf(root(0, "")), arenaOf(root(math.MaxUint64, "")), arenaOf(api.Term{Up: -1}),
		arenaOf(root(1, long)), arenaOf(root(1, long[1:])), arenaOf(root(1, long), next(0, long), next(1, long)),
		arenaOf(root(1, "a"), root(2, "a")), arenaOf(root(1, "a"), root(1, "b")), arenaOf(root(1, "a"), root(1, "")),
		arenaOf(root(0, "a"), next(0, "a"), next(1, "a"), next(2, "a")),
		arenaOf(root(1, ""), root(2, ""), next(0, "a"), next(1, "a")),
		arenaOf(root(1, ""), next(0, "a"), next(0, "b"), next(0, "")),
		arenaOf(root(1, long), root(1, long[1:]), root(1, long[:longest-1])),
		roots(1000), chain(1000),
	} {
		if e := Check(a); e != api.OK {
			t.Errorf("Check(%s) = %d", brief(a), e)
		}
	}
	for name, a := range wrong() {
		if e := Check(a); e != api.ErrArg {
			t.Errorf("%s: Check = %d", name, e)
		}
	}
}

// P5.1: terms are told apart by each of their parts, not by what these are when they are written in a row.
func TestCheckTellsApart(t *testing.T) {
	var l []api.Term
	for key := range uint64(13) {
		for _, text := range []string{"", "\x00", "0", "1", "11", "1,1", "-1", ",", "\xff", "\u00fc", "\xfc"} {
			l = append(l, root(key, text))
			l = append(l, next(int(key), text))
		}
	}
	slices.SortStableFunc(l, func(x, y api.Term) int { return x.Up - y.Up })
	if e := Check(arenaOf(l...)); e != api.OK {
		t.Errorf("Check of %d terms that differ = %d", len(l), e)
	}
	for i, x := range l {
		if e := Check(arenaOf(append(slices.Clone(l), x)...)); e != api.ErrArg {
			t.Errorf("Check with term %d twice = %d", i, e)
		}
	}
}

// P5.1
func TestSame(t *testing.T) {
	if !Same(api.Arena{}, api.Arena{L: []api.Term{}}) || !Same(some(), some()) || !Same(roots(1000), roots(1000)) {
		t.Error("those that are the same are not")
	}
	if !Same(arenaOf(api.Term{Up: -1}), arenaOf(api.Term{Up: -1, Text: []byte{}})) {
		t.Error("a text that is nil is another one than an empty one")
	}
	if Same(some(), api.Arena{}) || Same(api.Arena{}, some()) {
		t.Error("some are the same as none")
	}
	for i := range some().L {
		for k, change := range []func(x *api.Term){
			func(x *api.Term) { x.Key ^= 1 },
			func(x *api.Term) { x.Key ^= 1 << 63 },
			func(x *api.Term) { x.Up++ },
			func(x *api.Term) { x.Up-- },
			func(x *api.Term) { x.Text = append(x.Text, 0) },
			func(x *api.Term) { x.Text = append([]byte{'x'}, x.Text[min(1, len(x.Text)):]...) },
		} {
			a := some()
			change(&a.L[i])
			if Same(a, some()) || Same(some(), a) {
				t.Errorf("change %d at %d is not seen", k, i)
			}
		}
		a := arenaOf(some().L[:i]...)
		if Same(a, some()) || Same(some(), a) {
			t.Errorf("%d terms are the same as all", i)
		}
		a = arenaOf(slices.Delete(some().L, i, i+1)...)
		if Same(a, some()) || Same(some(), a) {
			t.Errorf("all are the same as all but %d", i)
		}
	}
	a := some()
	slices.Reverse(a.L)
	if Same(a, some()) || Same(some(), a) {
		t.Error("those in another order are the same")
	}
}

// P5.1: what may not be is held against another one too, as Same tells no error.
func TestSameOfWrong(t *testing.T) {
	for name, a := range wrong() {
		if !Same(a, clone(a)) || Same(a, some()) || Same(some(), a) {
			t.Errorf("%s: Same is wrong", name)
		}
	}
}

// P5.1
func TestRoot(t *testing.T) {
	for _, x := range []struct {
		key  uint64
		text string
		tag  int
	}{
		{7, "id", 0}, {0, "", 5}, {math.MaxUint64, "id", 8}, {7, "", 10}, {0, "id", 11},
	} {
		wantRoot(t, some(), x.key, x.text, some(), x.tag, api.OK)
	}
	for _, x := range []struct {
		key  uint64
		text string
	}{
		{8, "id"}, {7, "i"}, {7, "idd"}, {7, "Id"}, {7, "di"}, {7, "id\x00"}, {7, "\x00"}, {0, "\x00"}, {1, ""}, {math.MaxUint64, ""},
		{math.MaxUint64 - 1, "id"}, {1 << 63, "id"}, {7 | 1<<32, "id"},
		// These texts stand behind another term, which is no root.
		{7, "one"}, {0, "one"}, {0, "two"},
	} {
		want := arenaOf(append(some().L, root(x.key, x.text))...)
		wantRoot(t, some(), x.key, x.text, want, 12, api.OK)
		wantRoot(t, want, x.key, x.text, want, 12, api.OK)
	}
}

// P5.1
func TestRootOfNone(t *testing.T) {
	for _, key := range []uint64{0, 1, 7, 1 << 63, math.MaxUint64} {
		for _, size := range []int{0, 1, 2, longest - 1, longest} {
			text := string(octets(size))
			want := arenaOf(root(key, text))
			wantRoot(t, api.Arena{}, key, text, want, 0, api.OK)
			wantRoot(t, api.Arena{L: []api.Term{}}, key, text, want, 0, api.OK)
			wantRoot(t, want, key, text, want, 0, api.OK)
		}
		wantRoot(t, api.Arena{}, key, string(octets(longest+1)), api.Arena{}, 0, api.ErrLong)
	}
	a, tag, e := Root(api.Arena{}, 7, nil)
	wantMade(t, "Root of nil", a, tag, e, arenaOf(root(7, "")), 0, api.OK)
	a, tag, e = Root(a, 7, nil)
	wantMade(t, "Root of nil, again", a, tag, e, arenaOf(root(7, "")), 0, api.OK)
}

// P5.1
func TestNext(t *testing.T) {
	for tag, x := range some().L {
		if x.Up >= 0 {
			wantNext(t, some(), x.Up, string(x.Text), some(), tag, api.OK)
		}
	}
	for up := range some().L {
		for _, text := range []string{"id", "on", "ones", "\x00", string(octets(longest - 1)), string(octets(longest))} {
			want := arenaOf(append(some().L, next(up, text))...)
			wantNext(t, some(), up, text, want, 12, api.OK)
			wantNext(t, want, up, text, want, 12, api.OK)
		}
		wantNext(t, some(), up, string(octets(longest+1)), api.Arena{}, 0, api.ErrLong)
	}
	// The same text at the last tag, at the one that was made of it, and so on.
	a := some()
	for tag := 11; tag < 30; tag++ {
		want := arenaOf(append(clone(a).L, next(tag, "on"))...)
		wantNext(t, a, tag, "on", want, tag+1, api.OK)
		a = want
	}
}

// P5.1: a term that comes of another one is no root, though it has key 0 as well.
func TestNextIsNoRoot(t *testing.T) {
	a := arenaOf(root(0, "a"), next(0, "b"))
	wantRoot(t, a, 0, "b", arenaOf(root(0, "a"), next(0, "b"), root(0, "b")), 2, api.OK)
	wantNext(t, a, 0, "a", arenaOf(root(0, "a"), next(0, "b"), next(0, "a")), 2, api.OK)
	wantNext(t, a, 1, "b", arenaOf(root(0, "a"), next(0, "b"), next(1, "b")), 2, api.OK)
}

// noTags are numbers that are no tag of an arena with n terms.
func noTags(n int) []int {
	return []int{n, n + 1, n + 1000, -1, -2, -n, -n - 1, math.MaxInt, math.MinInt, full, 1 << 32}
}

// P5.1, P5.2
func TestNoSuchTag(t *testing.T) {
	for _, a := range []api.Arena{{}, arenaOf(root(7, "id")), some()} {
		last := len(a.L) - 1
		if last >= 0 {
			wantNext(t, a, last, "new", arenaOf(append(clone(a).L, next(last, "new"))...), last+1, api.OK)
			if _, _, e := Path(a, last); e != api.OK {
				t.Errorf("Path of the last tag, %d: %d", last, e)
			}
		}
		for _, tag := range noTags(len(a.L)) {
			if tag >= 0 && tag <= last {
				continue
			}
			wantNext(t, a, tag, "new", api.Arena{}, 0, api.ErrArg)
			wantNext(t, a, tag, "", api.Arena{}, 0, api.ErrArg)
			// No such tag is told ahead of a text that is too long.
			wantNext(t, a, tag, string(octets(longest+1)), api.Arena{}, 0, api.ErrArg)
			wantPath(t, a, tag, 0, nil, api.ErrArg)
		}
	}
	// -1 is no tag, also where a root of key 0 has that text.
	wantNext(t, some(), -1, "id", api.Arena{}, 0, api.ErrArg)
}

// P5.1, P5.2: an arena that may not be is told ahead of all else.
func TestWrongArena(t *testing.T) {
	long := string(octets(longest + 1))
	for name, a := range wrong() {
		for _, text := range []string{"", "id", "a", long} {
			for _, tag := range []int{0, 1, -1, len(a.L) - 1, len(a.L)} {
				got, made, e := Next(a, tag, []byte(text))
				wantMade(t, name+": Next", got, made, e, api.Arena{}, 0, api.ErrArg)
				if len(a.L) > full {
					break
				}
			}
			got, made, e := Root(a, 1, []byte(text))
			wantMade(t, name+": Root", got, made, e, api.Arena{}, 0, api.ErrArg)
			if tag, e := Find(a, 1, []byte(text), nil); tag != 0 || e != api.ErrArg {
				t.Errorf("%s: Find = %d, %d", name, tag, e)
			}
			if tag, e := Find(a, 1, nil, texts(text)); tag != 0 || e != api.ErrArg {
				t.Errorf("%s: Find = %d, %d", name, tag, e)
			}
		}
		for _, tag := range []int{0, 1, -1, len(a.L) - 1, len(a.L)} {
			if key, l, e := Path(a, tag); key != 0 || len(l) != 0 || e != api.ErrArg {
				t.Errorf("%s: Path = %d, %d texts, %d", name, key, len(l), e)
			}
		}
	}
}

// P5.1, P5.2: with MaxNodes terms nothing new is made, but what is there is found.
func TestFull(t *testing.T) {
	a := roots(full)
	a.L[full-1] = next(full-2, "last")
	if e := Check(a); e != api.OK {
		t.Fatalf("Check = %d", e)
	}
	wantRoot(t, a, 0, "", a, 0, api.OK)
	wantRoot(t, a, full-2, "", a, full-2, api.OK)
	wantNext(t, a, full-2, "last", a, full-1, api.OK)
	wantRoot(t, a, full, "", api.Arena{}, 0, api.ErrFull)
	wantRoot(t, a, 0, "new", api.Arena{}, 0, api.ErrFull)
	wantRoot(t, a, 0, string(octets(longest)), api.Arena{}, 0, api.ErrFull)
	wantNext(t, a, full-2, "", api.Arena{}, 0, api.ErrFull)
	wantNext(t, a, full-1, "last", api.Arena{}, 0, api.ErrFull)
	wantNext(t, a, 0, "last", api.Arena{}, 0, api.ErrFull)
	// ErrArg and ErrLong are named ahead of ErrFull.
	wantNext(t, a, full, "last", api.Arena{}, 0, api.ErrArg)
	wantNext(t, a, -1, "last", api.Arena{}, 0, api.ErrArg)
	wantRoot(t, a, full, string(octets(longest+1)), api.Arena{}, 0, api.ErrLong)
	wantNext(t, a, 0, string(octets(longest+1)), api.Arena{}, 0, api.ErrLong)
	wantFind(t, a, full-2, texts("", "last"), full-1, api.OK)
	wantFind(t, a, full-2, texts("", ""), 0, api.ErrNone)
	wantPath(t, a, full-1, full-2, texts("", "last"), api.OK)
}

// P5.1: with one less there is room for one.
func TestRoomForOne(t *testing.T) {
	a := roots(full - 1)
	want := roots(full)
	wantRoot(t, a, full-1, "", want, full-1, api.OK)
	want.L[full-1] = next(full-2, "last")
	wantNext(t, a, full-2, "last", want, full-1, api.OK)
}

// P5.2
func TestFind(t *testing.T) {
	for _, x := range []struct {
		key uint64
		l   []string
		tag int
	}{
		{7, []string{"id"}, 0}, {7, []string{"id", "one"}, 1}, {7, []string{"id", "one", "two"}, 2}, {7, []string{"id", "two"}, 3},
		{7, []string{"id", "one", "two", "two"}, 4}, {0, []string{""}, 5}, {0, []string{"", ""}, 6}, {0, []string{"", "", ""}, 7},
		{math.MaxUint64, []string{"id"}, 8}, {math.MaxUint64, []string{"id", "one"}, 9}, {7, []string{""}, 10}, {0, []string{"id"}, 11},
	} {
		wantFind(t, some(), x.key, texts(x.l...), x.tag, api.OK)
	}
	if tag, e := Find(some(), 0, nil, [][]byte{nil, {}}); tag != 7 || e != api.OK {
		t.Errorf("Find with texts that are nil = %d, %d", tag, e)
	}
	if tag, e := Find(some(), 0, []byte{}, [][]byte{}); tag != 5 || e != api.OK {
		t.Errorf("Find with a list that is empty = %d, %d", tag, e)
	}
}

// P5.2
func TestFindNone(t *testing.T) {
	for _, x := range []struct {
		key uint64
		l   []string
	}{
		{8, []string{"id"}}, {7, []string{"i"}}, {7, []string{"one"}}, {0, []string{"one"}}, {0, []string{"two"}}, {7, []string{"idone"}},
		{7, []string{"id", "id"}}, {7, []string{"id", ""}}, {7, []string{"", ""}}, {7, []string{"id", "onetwo"}},
		{7, []string{"id", "two", "one"}}, {7, []string{"id", "two", "two"}}, {7, []string{"id", "one", "one"}},
		{7, []string{"id", "one", "two", "two", "two"}}, {0, []string{"", "", "", ""}}, {0, []string{"id", "one"}},
		{math.MaxUint64, []string{"id", "two"}}, {math.MaxUint64, []string{"id", "one", "two"}}, {math.MaxUint64, []string{""}},
		// One that is not there, ahead of those that are.
		{7, []string{"none", "id", "one"}}, {7, []string{"id", "none", "one", "two"}}, {8, []string{"id", "one", "two"}},
		{7, []string{"none", "one"}}, {7, []string{"id", "none", "two"}},
		{7, []string{"id", string(octets(longest))}}, {7, []string{string(octets(longest))}},
	} {
		wantFind(t, some(), x.key, texts(x.l...), 0, api.ErrNone)
	}
	for _, a := range []api.Arena{{}, {L: []api.Term{}}} {
		wantFind(t, a, 0, texts(""), 0, api.ErrNone)
		wantFind(t, a, 7, texts("id", "one"), 0, api.ErrNone)
		wantFind(t, a, math.MaxUint64, texts(string(octets(longest))), 0, api.ErrNone)
	}
}

// P5.2: a text that is too long is told wherever it stands, also behind one that is not there.
func TestFindLong(t *testing.T) {
	long := string(octets(longest + 1))
	for _, a := range []api.Arena{{}, some()} {
		for _, key := range []uint64{0, 7, 8} {
			for _, l := range [][]string{
				{long}, {"id", long}, {"id", "one", long}, {"id", long, "one"}, {long, "one"}, {long, long},
				{"none", long}, {"id", "none", long}, {"id", "one", "two", "two", "two", "two", long}, {"none", "one", long, "two"},
			} {
				wantFind(t, a, key, texts(l...), 0, api.ErrLong)
			}
		}
	}
	a := arenaOf(root(1, long[1:]), next(0, long[1:]), next(1, long[:longest]))
	wantFind(t, a, 1, texts(long[1:]), 0, api.OK)
	wantFind(t, a, 1, texts(long[1:], long[1:]), 1, api.OK)
	wantFind(t, a, 1, texts(long[1:], long[1:], long[:longest]), 2, api.OK)
	wantFind(t, a, 1, texts(long[1:], long[:longest]), 0, api.ErrNone)
	wantFind(t, a, 1, texts(long[1:], long[1:], long[1:]), 0, api.ErrNone)
}

// P5.2
func TestPath(t *testing.T) {
	for tag, x := range []struct {
		key uint64
		l   []string
	}{
		{7, []string{"id"}}, {7, []string{"id", "one"}}, {7, []string{"id", "one", "two"}}, {7, []string{"id", "two"}},
		{7, []string{"id", "one", "two", "two"}}, {0, []string{""}}, {0, []string{"", ""}}, {0, []string{"", "", ""}},
		{math.MaxUint64, []string{"id"}}, {math.MaxUint64, []string{"id", "one"}}, {7, []string{""}}, {0, []string{"id"}},
	} {
		wantPath(t, some(), tag, x.key, texts(x.l...), api.OK)
	}
	long := string(octets(longest))
	wantPath(t, arenaOf(root(1, long), next(0, long)), 1, 1, texts(long, long), api.OK)
}

// P5.2: as long as a way can be.
func TestLongestWay(t *testing.T) {
	a := chain(full)
	for i := range a.L {
		a.L[i].Text = []byte{byte(i), byte(i >> 8), byte(i >> 16)}
	}
	var all [][]byte
	for _, x := range a.L {
		all = append(all, x.Text)
	}
	for _, n := range []int{1, 1 << 16, full} {
		key, l, e := Path(a, n-1)
		if key != 7 || !equalTexts(l, all[:n]) || e != api.OK {
			t.Errorf("Path(%d) = %d, %d texts, %d", n-1, key, len(l), e)
		}
		if tag, e := Find(a, 7, all[0], all[1:n]); tag != n-1 || e != api.OK {
			t.Errorf("Find of %d texts = %d, %d", n, tag, e)
		}
	}
	if tag, e := Find(a, 7, all[0], append(all[1:], nil)); tag != 0 || e != api.ErrNone {
		t.Errorf("Find behind the last = %d, %d", tag, e)
	}
}

// way is how a term is made, as one string that no other way has.
func way(key uint64, l [][]byte) string { return fmt.Sprintf("%d %q", key, l) }

// maker makes terms by Root and Next, and holds what they tell against all ways that were gone.
type maker struct {
	t    *testing.T
	a    api.Arena
	tags map[string]int
	ways [][][]byte
	keys []uint64
}

// made takes what a call told of the way of that key, and those texts.
func (m *maker) made(a api.Arena, tag int, e api.Errno, key uint64, l [][]byte) {
	m.t.Helper()
	want, there := m.tags[way(key, l)]
	if !there {
		want = len(m.a.L)
		m.tags[way(key, l)] = want
		m.ways = append(m.ways, l)
		m.keys = append(m.keys, key)
	}
	if tag != want || e != api.OK || len(a.L) != len(m.tags) || Check(a) != api.OK {
		m.t.Fatalf("%s: %d, %d, with %d terms; want %d, with %d", way(key, l), tag, e, len(a.L), want, len(m.tags))
	}
	if !equal(m.a, arenaOf(a.L[:len(m.a.L)]...)) {
		m.t.Fatalf("%s: what was made did not stay: %s, then %s", way(key, l), brief(m.a), brief(a))
	}
	m.a = a
}

func (m *maker) root(key uint64, text []byte) {
	m.t.Helper()
	a, tag, e := Root(m.a, key, text)
	m.made(a, tag, e, key, [][]byte{text})
}

func (m *maker) next(up int, text []byte) {
	m.t.Helper()
	a, tag, e := Next(m.a, up, text)
	m.made(a, tag, e, m.keys[up], append(slices.Clone(m.ways[up]), text))
}

// hold asks for all that was made: each tag has its own way, and each way its own tag.
func (m *maker) hold() {
	m.t.Helper()
	for tag, l := range m.ways {
		wantPath(m.t, m.a, tag, m.keys[tag], l, api.OK)
		wantFind(m.t, m.a, m.keys[tag], l, tag, api.OK)
		for _, key := range []uint64{m.keys[tag] + 1, m.keys[tag] - 1} {
			if want, there := m.tags[way(key, l)]; there {
				wantFind(m.t, m.a, key, l, want, api.OK)
			} else {
				wantFind(m.t, m.a, key, l, 0, api.ErrNone)
			}
		}
	}
}

func newMaker(t *testing.T) *maker { return &maker{t: t, tags: map[string]int{}} }

// P5.3: by numbers that follow a rule and come to the same terms again and again.
func TestMadeTwice(t *testing.T) {
	m := newMaker(t)
	n := uint64(1)
	for range 2000 {
		n = n*6364136223846793005 + 1442695040888963407
		text := octets(int(n>>40) % 3)
		if len(m.ways) == 0 || n>>60 == 0 {
			m.root(n>>50%3, text)
		} else {
			m.next(int(n>>33)%len(m.ways)%60, text)
		}
	}
	m.hold()
}

// P5.3: all ways of at most four steps, each gone twice.
func TestAllWays(t *testing.T) {
	m := newMaker(t)
	for range 2 {
		for _, key := range []uint64{0, 1, math.MaxUint64} {
			for _, text := range texts("", "a", "b") {
				m.root(key, text)
			}
		}
		for up := 0; up < len(m.ways); up++ {
			if len(m.ways[up]) < 4 {
				for _, text := range texts("", "a", "b") {
					m.next(up, text)
				}
			}
		}
	}
	if len(m.ways) != 3*(3+9+27+81) {
		t.Errorf("%d terms", len(m.ways))
	}
	m.hold()
}

// P5.3, the chapter's example.
func TestRootTwice(t *testing.T) {
	a, x, e := Root(api.Arena{}, 7, []byte("id"))
	a, y, f := Root(a, 7, []byte("id"))
	if x != 0 || y != 0 || len(a.L) != 1 || e != api.OK || f != api.OK {
		t.Errorf("%d, %d, %d terms, %d, %d", x, y, len(a.L), e, f)
	}
}

// makes are calls that tell an arena: of a term that is there, and of one that is not.
func makes() map[string]func(a api.Arena, text []byte) (api.Arena, int, api.Errno) {
	return map[string]func(a api.Arena, text []byte) (api.Arena, int, api.Errno){
		"Root": func(a api.Arena, text []byte) (api.Arena, int, api.Errno) { return Root(a, 7, text) },
		"Next": func(a api.Arena, text []byte) (api.Arena, int, api.Errno) { return Next(a, 0, text) },
	}
}

// R2: what is handed in stays, with the room behind it, and what is told shares nothing with it, nor with what was told ahead.
func TestArenaIsNew(t *testing.T) {
	for name, call := range makes() {
		for _, s := range []string{"id", "one", "new", "", string(octets(longest))} {
			room := clone(some())
			room.L = append(room.L, root(55, "behind"), root(56, "behind"))
			a := api.Arena{L: room.L[:12]}
			kept := clone(room)
			text := []byte(s + "behind")[:len(s)]
			got, tag, e := call(a, text)
			again, againTag, _ := call(a, text)
			want := clone(got)
			if e != api.OK || tag != againTag || !equal(again, want) || !equal(room, kept) || string(text[:cap(text)][:len(s)+6]) != s+"behind" {
				t.Fatalf("%s of %.12q: %d, %d, or what was handed in changed: %s", name, s, tag, e, brief(room))
			}
			wipeArena(got)
			if !equal(room, kept) || string(text) != s || !equal(again, want) {
				t.Errorf("%s of %.12q: what is told is not new", name, s)
			}
			wipeArena(room)
			wipe(text)
			if !equal(again, want) {
				t.Errorf("%s of %.12q: what was told hangs on what was handed in", name, s)
			}
		}
	}
}

// R2: terms whose texts share memory when they are handed in share none when they are told.
func TestTermsShareNothing(t *testing.T) {
	for name, call := range makes() {
		b := []byte("abcdef")
		a := arenaOf(
			api.Term{Key: 1, Up: -1, Text: b[:3]}, api.Term{Key: 2, Up: -1, Text: b[1:4]},
			api.Term{Up: 0, Text: b}, api.Term{Up: 1, Text: b},
		)
		got, _, e := call(a, b[:4])
		if e != api.OK {
			t.Fatalf("%s: %d", name, e)
		}
		want := clone(got)
		for i := range got.L {
			wipe(got.L[i].Text)
			for k := i + 1; k < len(got.L); k++ {
				if !bytes.Equal(got.L[k].Text, want.L[k].Text) {
					t.Errorf("%s: the texts of %d and %d share memory", name, i, k)
				}
			}
		}
		if string(b) != "abcdef" {
			t.Errorf("%s: what is told shares memory with what was handed in: %q", name, b)
		}
	}
}

// R2
func TestPathIsNew(t *testing.T) {
	b := []byte("two, one, id")
	a := arenaOf(api.Term{Key: 7, Up: -1, Text: b[10:]}, api.Term{Up: 0, Text: b[5:8]}, api.Term{Up: 1, Text: b[:3]}, api.Term{Up: 2, Text: b[:3]})
	want := texts("id", "one", "two", "two")
	_, l, _ := Path(a, 3)
	_, again, _ := Path(a, 3)
	for i := range l {
		wipe(l[i])
		if !equalTexts(l[i+1:], want[i+1:]) {
			t.Errorf("text %d shares memory with those behind it: %q", i, l)
		}
	}
	clear(l)
	if string(b) != "two, one, id" || !equalTexts(again, want) {
		t.Errorf("what Path told is not new: %q, %q", b, again)
	}
	wantPath(t, a, 3, 7, want, api.OK)
	wipe(b)
	if !equalTexts(again, want) {
		t.Errorf("what Path told hangs on the arena: %q", again)
	}
}

// R2
func TestHandedInStays(t *testing.T) {
	arenas := wrong()
	arenas["some"] = some()
	for name, a := range arenas {
		if len(a.L) > full {
			continue
		}
		kept := clone(a)
		for _, s := range []string{"", "one", string(octets(longest + 1))} {
			text, l := []byte("id"), texts("one", s, "two")
			Check(a)
			Same(a, a)
			Root(a, 7, text)
			Next(a, 0, l[1])
			Find(a, 7, text, l)
			Path(a, 0)
			if !equal(a, kept) || string(text) != "id" || !equalTexts(l, texts("one", s, "two")) {
				t.Errorf("%s: what was handed in changed: %s, %q, %.60q", name, brief(a), text, l)
			}
		}
	}
}

// R2: who made an arena may write into what it was made of.
func TestMadeStays(t *testing.T) {
	text := []byte("id")
	a, tag, _ := Root(api.Arena{}, 7, text)
	copy(text, "xx")
	a, up, _ := Next(a, tag, text)
	copy(text, "yy")
	a, last, _ := Next(a, up, text)
	copy(text, "zz")
	wantPath(t, a, last, 7, texts("id", "xx", "yy"), api.OK)
	// Two that go on from one arena do not get in each other's way.
	b, x, _ := Next(a, 0, []byte("b"))
	c, y, _ := Next(a, 0, []byte("c"))
	if x != 3 || y != 3 {
		t.Errorf("%d, %d", x, y)
	}
	wantPath(t, b, 3, 7, texts("id", "b"), api.OK)
	wantPath(t, c, 3, 7, texts("id", "c"), api.OK)
}

// may is worked out term by term, and pair by pair.
func may(a api.Arena) bool {
	for i, x := range a.L {
		isRoot := x.Up == -1
		comes := x.Up >= 0 && x.Up < i && x.Key == 0
		if !isRoot && !comes || len(x.Text) > longest {
			return false
		}
		for _, y := range a.L[:i] {
			if x.Key == y.Key && x.Up == y.Up && string(x.Text) == string(y.Text) {
				return false
			}
		}
	}
	return true
}

// P5.1: all arenas of up to three small terms.
func TestSmallArenas(t *testing.T) {
	var terms []api.Term
	for key := range uint64(2) {
		for up := -2; up < 3; up++ {
			for _, text := range []string{"", "a"} {
				terms = append(terms, api.Term{Key: key, Up: up, Text: []byte(text)})
			}
		}
	}
	n := 0
	hold := func(l ...api.Term) {
		want := api.ErrArg
		if may(arenaOf(l...)) {
			want = api.OK
			n++
		}
		if e := Check(arenaOf(l...)); e != want {
			t.Errorf("Check(%s) = %d; want %d", brief(arenaOf(l...)), e, want)
		}
	}
	for _, x := range terms {
		hold(x)
		for _, y := range terms {
			hold(x, y)
			for _, z := range terms {
				hold(x, y, z)
			}
		}
	}
	if n == 0 {
		t.Error("none of them may be")
	}
}

// FuzzMake makes terms as the octets say, three for each, and asks for all of them.
func FuzzMake(f *testing.F) {
	f.Add([]byte{0, 7, 2, 1, 0, 3, 1, 1, 3, 1, 0, 3})
	f.Add([]byte{0, 0, 0, 0, 0, 0, 1, 0, 0, 1, 0, 0})
	f.Fuzz(func(t *testing.T, b []byte) {
		m := newMaker(t)
		for ; len(b) >= 3 && len(m.ways) < 60; b = b[3:] {
			text := octets(int(b[2]) % 5)
			if len(m.ways) == 0 || b[0]%4 == 0 {
				m.root(uint64(b[1]), text)
			} else {
				m.next(int(b[1])%len(m.ways), text)
			}
		}
		m.hold()
	})
}

// FuzzCheck holds Check against the chapter's words; each term is made of three octets.
func FuzzCheck(f *testing.F) {
	f.Add([]byte{0, 0, 1, 0, 1, 1, 0, 2, 1})
	f.Add([]byte{1, 0, 1, 1, 1, 1, 1, 2, 1})
	f.Fuzz(func(t *testing.T, b []byte) {
		var a api.Arena
		for ; len(b) >= 3 && len(a.L) < 100; b = b[3:] {
			a.L = append(a.L, api.Term{Key: uint64(b[0]), Up: int(int8(b[1])), Text: octets(int(b[2]) * 17)})
		}
		want := api.ErrArg
		if may(a) {
			want = api.OK
		}
		if e := Check(a); e != want {
			t.Errorf("Check(%s) = %d; want %d", brief(a), e, want)
		}
	})
}
