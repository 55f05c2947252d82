package token

import (
	"bytes"
	"fmt"
	"math"
	"slices"
	"testing"

	"damson/api"
	"damson/bigsize"
	"damson/caveat"
	"damson/tlv"
)

// The kinds and the greatest numbers are written out, so that the tests do not lean on what they hold the program against.
const (
	till    = 1
	methods = 2
	each    = 3
	all     = 4
	who     = 5

	allMoney = 4611686018427387904
	mostL    = 16
	mostTag  = 1048576
	longest  = 4096
	greatest = math.MaxUint64
)

func of(kind int, a uint64) api.Caveat { return api.Caveat{Kind: kind, A: a} }

func capOf(a, b uint64) api.Caveat { return api.Caveat{Kind: all, A: a, B: b} }

func tokenOf(root uint64, tag int, l ...api.Caveat) api.Token {
	return api.Token{Root: root, L: l, Tag: tag}
}

// edges are numbers at and beside those where it changes how they are written.
func edges() []uint64 {
	return []uint64{
		0, 1, 2, 5, 9, 251, 252, 253, 254, 255, 256, 65534, 65535, 65536, 1<<32 - 1, 1 << 32,
		1 << 62, 1<<63 - 1, 1 << 63, greatest - 1, greatest,
	}
}

// some are caveats of all Kinds.
func some() []api.Caveat {
	return []api.Caveat{
		of(till, 30), of(till, greatest), of(methods, 65535), of(methods, 0), of(each, 7), of(each, allMoney),
		capOf(300, 7), capOf(7, 300), capOf(allMoney, greatest), of(who, 0), of(who, 65536), of(who, greatest),
	}
}

// longList is as many caveats as there may be, of the most octets.
func longList() []api.Caveat { return slices.Repeat([]api.Caveat{capOf(allMoney, greatest)}, mostL) }

// wrongCaveats are such as may not be.
func wrongCaveats() []api.Caveat {
	return []api.Caveat{
		{}, of(-1, 0), of(6, 0), of(math.MinInt, 9), of(math.MaxInt, 9), of(257, 9), of(methods, 65536), of(each, allMoney+1), capOf(allMoney+1, 1),
		{Kind: till, A: 9, B: 1}, {Kind: methods, A: 9, B: 1}, {Kind: each, A: 9, B: greatest}, {Kind: who, A: 9, B: 1},
	}
}

// right are tokens that may be, with all edges.
func right() []api.Token {
	l := []api.Token{{}, {L: []api.Caveat{}}, tokenOf(greatest, mostTag, longList()...), tokenOf(0, 0, longList()...), tokenOf(5, 2, of(till, 30), of(each, 7))}
	for _, n := range edges() {
		l = append(l, tokenOf(n, 0), tokenOf(n, mostTag, of(who, n)), tokenOf(n, 3, some()...))
		if n <= mostTag {
			l = append(l, tokenOf(5, int(n)), tokenOf(greatest, int(n), capOf(n, n)))
		}
	}
	for n := range mostL + 1 {
		l = append(l, tokenOf(7, 1, slices.Repeat([]api.Caveat{of(till, uint64(n))}, n)...))
	}
	for _, tag := range []int{mostTag - 1, mostTag} {
		l = append(l, tokenOf(5, tag), tokenOf(5, tag, some()...))
	}
	return l
}

// wrong are tokens that may not be.
func wrong() []api.Token {
	var l []api.Token
	for _, tag := range []int{-1, -2, -mostTag, math.MinInt, mostTag + 1, mostTag + 2, 1 << 32, math.MaxInt} {
		l = append(l, tokenOf(0, tag), tokenOf(5, tag, of(till, 30)), tokenOf(greatest, tag, longList()...))
	}
	for _, n := range []int{mostL + 1, mostL + 2, 32, 256, 1000} {
		l = append(l, tokenOf(5, 0, slices.Repeat([]api.Caveat{of(till, 30)}, n)...), tokenOf(5, mostTag, make([]api.Caveat, n)...))
	}
	for _, c := range wrongCaveats() {
		l = append(l, tokenOf(5, 0, c), tokenOf(5, 0, of(till, 30), c), tokenOf(5, 0, c, of(till, 30)))
		for i := range mostL {
			m := longList()
			m[i] = c
			l = append(l, tokenOf(5, 2, m...))
		}
	}
	return l
}

// octetsOf are those of a caveat that may be.
func octetsOf(c api.Caveat) []byte {
	b, _ := caveat.Put(c)
	return b
}

// record are the octets of one.
func record(t uint64, v ...byte) []byte { return append(bigsize.Put(t, uint64(len(v))), v...) }

// putBy are the octets of a token that may be.
func putBy(x api.Token) []byte {
	b := append(record(1, bigsize.Put(x.Root)...), record(2, bigsize.Put(uint64(x.Tag))...)...)
	for i, c := range x.L {
		b = append(b, record(uint64(16+i), octetsOf(c)...)...)
	}
	return b
}

// getBy reads a token in the chapter's words, of records by their types.
func getBy(b []byte) (api.Token, api.Errno) {
	var none api.Token
	l, e := tlv.Get(b)
	if e != api.OK {
		return none, e
	}
	by := map[uint64][]byte{}
	for _, r := range l {
		by[r.T] = r.V
	}
	there := func(t uint64) bool { _, is := by[t]; return is }
	if !there(1) || !there(2) {
		return none, api.ErrNone
	}
	root, e := tlv.Number(l, 1)
	if e != api.OK {
		return none, e
	}
	tag, e := tlv.Number(l, 2)
	if e != api.OK {
		return none, e
	}
	for t := range by {
		if t != 1 && t != 2 && (t < 16 || t > 31) || t > 16 && !there(t-1) {
			return none, api.ErrForm
		}
	}
	if tag > mostTag {
		return none, api.ErrForm
	}
	x := tokenOf(root, int(tag))
	for t := uint64(16); there(t); t++ {
		c, e := caveat.Get(by[t])
		if e != api.OK {
			return none, e
		}
		x.L = append(x.L, c)
	}
	return x, api.OK
}

func rootTerm(key uint64, root uint64) api.Term {
	return api.Term{Key: key, Up: -1, Text: bigsize.Put(root)}
}

func nextTerm(up int, c api.Caveat) api.Term { return api.Term{Up: up, Text: octetsOf(c)} }

func arenaOf(l ...api.Term) api.Arena { return api.Arena{L: l} }

// rootsOf is an arena of n roots, each of another key, minted for number 5.
func rootsOf(n int) api.Arena {
	l := make([]api.Term, n)
	for i := range l {
		l[i] = rootTerm(uint64(i), 5)
	}
	return api.Arena{L: l}
}

// grown is an arena with two roots of one number, two numbers of one key, and what was bound to them.
func grown() api.Arena {
	return arenaOf(
		rootTerm(9, 5), nextTerm(0, of(till, 30)), nextTerm(1, of(each, 7)), nextTerm(0, of(each, 7)),
		rootTerm(8, 5), nextTerm(4, of(till, 30)), rootTerm(9, 6), rootTerm(0, 0), rootTerm(greatest, greatest), nextTerm(3, of(till, 30)),
	)
}

// wrongArenas are such as may not be.
func wrongArenas() map[string]api.Arena {
	return map[string]api.Arena{
		"up is -2":            arenaOf(rootTerm(9, 5), api.Term{Up: -2}),
		"up is its own place": arenaOf(api.Term{Up: 0}),
		"up is behind":        arenaOf(rootTerm(9, 5), api.Term{Up: 2}, api.Term{Up: 0}),
		"twice the same root": arenaOf(rootTerm(9, 5), rootTerm(9, 5)),
		"twice the same":      arenaOf(rootTerm(9, 5), nextTerm(0, of(till, 30)), nextTerm(0, of(till, 30))),
		"key beside an up":    arenaOf(rootTerm(9, 5), api.Term{Key: 9, Up: 0}),
		"text too long":       arenaOf(rootTerm(9, 5), api.Term{Up: 0, Text: make([]byte, longest+1)}),
	}
}

// equal is worked out apart from Same.
func equal(a, b api.Token) bool {
	if a.Root != b.Root || a.Tag != b.Tag || len(a.L) != len(b.L) {
		return false
	}
	for i := range a.L {
		if a.L[i].Kind != b.L[i].Kind || a.L[i].A != b.L[i].A || a.L[i].B != b.L[i].B {
			return false
		}
	}
	return true
}

func equalArenas(a, b api.Arena) bool {
	return slices.EqualFunc(a.L, b.L, func(x, y api.Term) bool {
		return x.Key == y.Key && x.Up == y.Up && string(x.Text) == string(y.Text)
	})
}

func clone(x api.Token) api.Token {
	x.L = slices.Clone(x.L)
	return x
}

func cloneArena(a api.Arena) api.Arena {
	l := slices.Clone(a.L)
	for i := range l {
		l[i].Text = bytes.Clone(l[i].Text)
	}
	return api.Arena{L: l}
}

// with is the arena with one more term.
func with(a api.Arena, x api.Term) api.Arena { return arenaOf(append(cloneArena(a).L, x)...) }

// wipe writes over all octets, and those behind their end.
func wipe(b []byte) {
	b = b[:cap(b)]
	for i := range b {
		b[i] ^= 0xff
	}
}

// wipeToken writes over all caveats, and those behind their end.
func wipeToken(x api.Token) {
	l := x.L[:cap(x.L)]
	for i := range l {
		l[i] = api.Caveat{Kind: 99, A: 99, B: 99}
	}
}

// wipeArena writes over all texts and terms, and those behind their end.
func wipeArena(a api.Arena) {
	l := a.L[:cap(a.L)]
	for i := range l {
		wipe(l[i].Text)
		l[i] = api.Term{Key: 99, Up: 99}
	}
}

// brief tells an arena that is not too great to be read.
func brief(a api.Arena) string {
	if len(a.L) > 16 {
		return fmt.Sprintf("%d terms", len(a.L))
	}
	return fmt.Sprint(a.L)
}

func wantMade(t *testing.T, call string, a api.Arena, x api.Token, e api.Errno, want api.Arena, wantX api.Token, wantE api.Errno) {
	t.Helper()
	if !equalArenas(a, want) || !equal(x, wantX) || e != wantE {
		t.Errorf("%s = %s, %v, %d; want %s, %v, %d", call, brief(a), x, e, brief(want), wantX, wantE)
	}
}

func wantMint(t *testing.T, a api.Arena, root, key uint64, want api.Arena, wantX api.Token, wantE api.Errno) {
	t.Helper()
	got, x, e := Mint(a, root, key)
	wantMade(t, fmt.Sprintf("Mint(%s, %d, %d)", brief(a), root, key), got, x, e, want, wantX, wantE)
}

func wantBind(t *testing.T, a api.Arena, x api.Token, c api.Caveat, want api.Arena, wantX api.Token, wantE api.Errno) {
	t.Helper()
	got, y, e := Bind(a, x, c)
	wantMade(t, fmt.Sprintf("Bind(%s, %v, %v)", brief(a), x, c), got, y, e, want, wantX, wantE)
}

func wantVerify(t *testing.T, a api.Arena, key uint64, x api.Token, want bool, wantE api.Errno) {
	t.Helper()
	if is, e := Verify(a, key, x); is != want || e != wantE {
		t.Errorf("Verify(%s, %d, %v) = %v, %d; want %v, %d", brief(a), key, x, is, e, want, wantE)
	}
}

func wantPut(t *testing.T, x api.Token, want []byte, wantE api.Errno) {
	t.Helper()
	if b, e := Put(x); !bytes.Equal(b, want) || e != wantE {
		t.Errorf("Put(%v) = %v, %d; want %v, %d", x, b, e, want, wantE)
	}
}

func wantGet(t *testing.T, b []byte, want api.Token, wantE api.Errno) {
	t.Helper()
	if x, e := Get(b); !equal(x, want) || e != wantE {
		t.Errorf("Get(%.600v) = %v, %d; want %v, %d", b, x, e, want, wantE)
	}
}

// P7.1
func TestCheck(t *testing.T) {
	for _, x := range right() {
		if e := Check(x); e != api.OK {
			t.Errorf("Check(%v) = %d", x, e)
		}
	}
	for _, x := range wrong() {
		if e := Check(x); e != api.ErrArg {
			t.Errorf("Check(%v) = %d", x, e)
		}
	}
}

// P7.1: the edges that the chapter names, each written out.
func TestCheckEdges(t *testing.T) {
	for _, x := range []struct {
		root    uint64
		tag     int
		caveats int
		want    api.Errno
	}{
		{5, -1, 0, 1}, {5, 0, 0, 0}, {5, 1, 0, 0}, {5, 1 << 20, 0, 0}, {5, 1<<20 + 1, 0, 1}, {5, math.MinInt, 0, 1}, {5, math.MaxInt, 0, 1},
		{0, 0, 0, 0}, {greatest, 0, 0, 0}, {0, -1, 0, 1}, {greatest, 1<<20 + 1, 0, 1},
		{5, 0, 1, 0}, {5, 0, 15, 0}, {5, 0, 16, 0}, {5, 0, 17, 1}, {5, 1 << 20, 16, 0}, {5, 1<<20 + 1, 16, 1}, {5, 1 << 20, 17, 1}, {5, -1, 17, 1},
	} {
		y := tokenOf(x.root, x.tag, slices.Repeat([]api.Caveat{of(till, 30)}, x.caveats)...)
		if e := Check(y); e != x.want {
			t.Errorf("Check(%v) = %d; want %d", y, e, x.want)
		}
	}
}

// P7.1
func TestSame(t *testing.T) {
	if !Same(api.Token{}, api.Token{L: []api.Caveat{}}) {
		t.Error("a list that is nil is another one than an empty one")
	}
	// What may not be is held against another one too, as Same tells no error.
	tokens := append(right(), wrong()...)
	for i, x := range tokens {
		if !Same(x, clone(x)) {
			t.Errorf("%v is not the same as itself", x)
		}
		y := tokens[(i*7+3)%len(tokens)]
		if Same(x, y) != equal(x, y) || Same(y, x) != equal(x, y) {
			t.Errorf("Same(%v, %v) is wrong", x, y)
		}
	}
}

// P7.1: each part tells two apart.
func TestSameTellsApart(t *testing.T) {
	base := tokenOf(5, 2, of(till, 30), capOf(7, 300), of(till, 30), of(each, 7))
	changes := []func(x *api.Token){
		func(x *api.Token) { x.Root ^= 1 },
		func(x *api.Token) { x.Root ^= 1 << 63 },
		func(x *api.Token) { x.Tag++ },
		func(x *api.Token) { x.Tag ^= 1 << 40 },
		func(x *api.Token) { x.Root, x.Tag = uint64(x.Tag), int(x.Root) },
		func(x *api.Token) { x.L = nil },
		func(x *api.Token) { x.L = append(x.L, api.Caveat{}) },
		func(x *api.Token) { slices.Reverse(x.L) },
	}
	for i := range base.L {
		changes = append(changes,
			func(x *api.Token) { x.L[i].Kind++ },
			func(x *api.Token) { x.L[i].A ^= 1 << 63 },
			func(x *api.Token) { x.L[i].B++ },
			func(x *api.Token) { x.L = x.L[:i] },
			func(x *api.Token) { x.L = slices.Delete(x.L, i, i+1) },
		)
	}
	for i, change := range changes {
		x := clone(base)
		change(&x)
		if Same(x, base) || Same(base, x) {
			t.Errorf("change %d is not seen", i)
		}
	}
}

// P7.1
func TestMint(t *testing.T) {
	for _, root := range edges() {
		for _, key := range []uint64{0, 1, 9, 1 << 63, greatest} {
			want := arenaOf(rootTerm(key, root))
			for _, a := range []api.Arena{{}, {L: []api.Term{}}, want} {
				wantMint(t, a, root, key, want, tokenOf(root, 0), api.OK)
			}
		}
	}
	// What is there is not made again.
	for tag, x := range map[int][2]uint64{0: {5, 9}, 4: {5, 8}, 6: {6, 9}, 7: {0, 0}, 8: {greatest, greatest}} {
		wantMint(t, grown(), x[0], x[1], grown(), tokenOf(x[0], tag), api.OK)
	}
	for _, x := range [][2]uint64{{9, 5}, {5, 0}, {5, 10}, {5, greatest}, {0, 9}, {greatest, 9}, {7, 9}, {6, 8}, {1, 30}, {0, greatest}, {greatest, 0}} {
		want := with(grown(), rootTerm(x[1], x[0]))
		wantMint(t, grown(), x[0], x[1], want, tokenOf(x[0], 10), api.OK)
		wantMint(t, want, x[0], x[1], want, tokenOf(x[0], 10), api.OK)
	}
}

// P7.1, P7.2: an arena that may not be is told ahead of all else.
func TestWrongArena(t *testing.T) {
	for name, a := range wrongArenas() {
		for _, root := range []uint64{0, 5, greatest} {
			got, x, e := Mint(a, root, 9)
			wantMade(t, name+": Mint", got, x, e, api.Arena{}, api.Token{}, api.ErrArg)
		}
		for _, x := range right() {
			got, y, e := Bind(a, x, of(till, 30))
			wantMade(t, name+": Bind", got, y, e, api.Arena{}, api.Token{}, api.ErrArg)
			for _, key := range []uint64{0, 8, 9} {
				wantVerify(t, a, key, x, false, api.ErrArg)
			}
		}
		// Also where the token, or the caveat, may not be either.
		wantBind(t, a, tokenOf(5, -1), of(till, 30), api.Arena{}, api.Token{}, api.ErrArg)
		wantBind(t, a, tokenOf(5, 0), api.Caveat{}, api.Arena{}, api.Token{}, api.ErrArg)
		wantVerify(t, a, 9, tokenOf(5, -1), false, api.ErrArg)
	}
}

// P7.1, P7.2: with MaxNodes terms nothing new is made, but what is there is told.
func TestFullArena(t *testing.T) {
	a := rootsOf(mostTag)
	a.L[mostTag-1] = nextTerm(0, of(till, 30))
	wantMint(t, a, 5, 0, a, tokenOf(5, 0), api.OK)
	wantMint(t, a, 5, mostTag-2, a, tokenOf(5, mostTag-2), api.OK)
	wantMint(t, a, 5, mostTag-1, api.Arena{}, api.Token{}, api.ErrFull)
	wantMint(t, a, 6, 0, api.Arena{}, api.Token{}, api.ErrFull)
	wantBind(t, a, tokenOf(5, 0), of(till, 30), a, tokenOf(5, mostTag-1, of(till, 30)), api.OK)
	wantBind(t, a, tokenOf(5, 0), of(till, 31), api.Arena{}, api.Token{}, api.ErrFull)
	wantBind(t, a, tokenOf(5, 1), of(till, 30), api.Arena{}, api.Token{}, api.ErrFull)
	// The greatest Tag that a token may have is none of the greatest arena's: Next tells that ahead of ErrFull.
	wantBind(t, a, tokenOf(5, mostTag), of(till, 30), api.Arena{}, api.Token{}, api.ErrArg)
	wantBind(t, a, tokenOf(5, 0), api.Caveat{}, api.Arena{}, api.Token{}, api.ErrArg)
	wantVerify(t, a, 0, tokenOf(5, mostTag-1, of(till, 30)), true, api.OK)
	wantVerify(t, a, 1, tokenOf(5, mostTag-1, of(till, 30)), false, api.OK)
	wantVerify(t, a, 0, tokenOf(5, mostTag, of(till, 30)), false, api.OK)
}

// P7.1, P7.2: with one less there is room for one, and with one more the arena may not be.
func TestArenaAtTheMost(t *testing.T) {
	a := rootsOf(mostTag - 1)
	wantMint(t, a, 6, 9, with(a, rootTerm(9, 6)), tokenOf(6, mostTag-1), api.OK)
	wantBind(t, a, tokenOf(5, mostTag-2), of(till, 30), with(a, nextTerm(mostTag-2, of(till, 30))), tokenOf(5, mostTag-1, of(till, 30)), api.OK)
	a = rootsOf(mostTag + 1)
	wantMint(t, a, 5, 0, api.Arena{}, api.Token{}, api.ErrArg)
	wantBind(t, a, tokenOf(5, 0), of(till, 30), api.Arena{}, api.Token{}, api.ErrArg)
	wantBind(t, a, tokenOf(5, mostTag, longList()...), of(till, 30), api.Arena{}, api.Token{}, api.ErrArg)
	wantVerify(t, a, 0, tokenOf(5, 0), false, api.ErrArg)
}

// P7.2
func TestBind(t *testing.T) {
	for _, c := range some() {
		for tag := range grown().L {
			if slices.ContainsFunc(grown().L, func(x api.Term) bool { return x.Up == tag && string(x.Text) == string(octetsOf(c)) }) {
				continue
			}
			want := with(grown(), nextTerm(tag, c))
			for _, l := range [][]api.Caveat{nil, {}, {c}, some(), longList()[1:]} {
				x := tokenOf(5, tag, l...)
				y := tokenOf(5, 10, append(slices.Clone(l), c)...)
				wantBind(t, grown(), x, c, want, y, api.OK)
				wantBind(t, want, x, c, want, y, api.OK)
			}
		}
	}
	// What is there is not made again.
	wantBind(t, grown(), tokenOf(5, 0), of(till, 30), grown(), tokenOf(5, 1, of(till, 30)), api.OK)
	wantBind(t, grown(), tokenOf(5, 1, of(till, 30)), of(each, 7), grown(), tokenOf(5, 2, of(till, 30), of(each, 7)), api.OK)
	wantBind(t, grown(), tokenOf(5, 3, of(each, 7)), of(till, 30), grown(), tokenOf(5, 9, of(each, 7), of(till, 30)), api.OK)
	wantBind(t, grown(), tokenOf(5, 4), of(till, 30), grown(), tokenOf(5, 5, of(till, 30)), api.OK)
}

// P7.2: whether the token is right is not asked: its Root and its caveats are told as they are.
func TestBindIsNoVerify(t *testing.T) {
	for _, root := range edges() {
		wantBind(t, grown(), tokenOf(root, 0, of(who, 3)), of(till, 30), grown(), tokenOf(root, 1, of(who, 3), of(till, 30)), api.OK)
	}
	wantBind(t, grown(), tokenOf(5, 4, some()...), of(till, 30), grown(), tokenOf(5, 5, append(some(), of(till, 30))...), api.OK)
}

// P7.2: up to MaxCaveats caveats are bound, and no more.
func TestBindTillFull(t *testing.T) {
	a, x, _ := Mint(api.Arena{}, 5, 9)
	wantA, want := arenaOf(rootTerm(9, 5)), tokenOf(5, 0)
	for n := range mostL {
		c := some()[n%len(some())]
		wantA = with(wantA, nextTerm(n, c))
		want = tokenOf(5, n+1, append(slices.Clone(want.L), c)...)
		wantBind(t, a, x, c, wantA, want, api.OK)
		a, x, _ = Bind(a, x, c)
		wantVerify(t, a, 9, x, true, api.OK)
		wantVerify(t, a, 8, x, false, api.OK)
	}
	for _, c := range some() {
		wantBind(t, a, x, c, api.Arena{}, api.Token{}, api.ErrFull)
	}
}

// noTags are Tags that may be, and that are none of an arena with n terms.
func noTags(n int) []int { return []int{n, n + 1, n + 1000, mostTag - 1, mostTag} }

// P7.2
func TestBindNoSuchTag(t *testing.T) {
	for _, a := range []api.Arena{{}, {L: []api.Term{}}, arenaOf(rootTerm(9, 5)), grown()} {
		for _, tag := range noTags(len(a.L)) {
			for _, l := range [][]api.Caveat{nil, some(), longList()[1:]} {
				wantBind(t, a, tokenOf(5, tag, l...), of(till, 30), api.Arena{}, api.Token{}, api.ErrArg)
			}
			// A full token is named ahead of what Next tells.
			wantBind(t, a, tokenOf(5, tag, longList()...), of(till, 30), api.Arena{}, api.Token{}, api.ErrFull)
		}
	}
}

// P7.2: what may not be is named ahead of a full token.
func TestBindWrong(t *testing.T) {
	for _, a := range []api.Arena{{}, grown()} {
		for _, x := range wrong() {
			wantBind(t, a, x, of(till, 30), api.Arena{}, api.Token{}, api.ErrArg)
			wantBind(t, a, x, api.Caveat{}, api.Arena{}, api.Token{}, api.ErrArg)
		}
		for _, c := range wrongCaveats() {
			for _, x := range right() {
				wantBind(t, a, x, c, api.Arena{}, api.Token{}, api.ErrArg)
			}
		}
		wantBind(t, a, tokenOf(5, 0, longList()...), of(till, 30), api.Arena{}, api.Token{}, api.ErrFull)
	}
	for name, a := range wrongArenas() {
		got, x, e := Bind(a, tokenOf(5, 0, longList()...), of(till, 30))
		wantMade(t, name+": Bind of a full token", got, x, e, api.Arena{}, api.Token{}, api.ErrArg)
	}
}

// P7.2
func TestVerify(t *testing.T) {
	for _, x := range []struct {
		key uint64
		x   api.Token
	}{
		{9, tokenOf(5, 0)}, {9, tokenOf(5, 1, of(till, 30))}, {9, tokenOf(5, 2, of(till, 30), of(each, 7))}, {9, tokenOf(5, 3, of(each, 7))},
		{8, tokenOf(5, 4)}, {8, tokenOf(5, 5, of(till, 30))}, {9, tokenOf(6, 6)}, {0, tokenOf(0, 7)}, {greatest, tokenOf(greatest, 8)},
		{9, tokenOf(5, 9, of(each, 7), of(till, 30))},
	} {
		wantVerify(t, grown(), x.key, x.x, true, api.OK)
		for _, tag := range append(noTags(10), 0, 1, 2, 3, 4, 5, 6, 7, 8, 9) {
			y := clone(x.x)
			y.Tag = tag
			wantVerify(t, grown(), x.key, y, tag == x.x.Tag, api.OK)
		}
		for _, key := range []uint64{x.key + 2, x.key - 2, x.key ^ 1<<32, x.key ^ 1<<63} {
			wantVerify(t, grown(), key, x.x, false, api.OK)
		}
		for _, root := range []uint64{x.x.Root + 2, x.x.Root - 2, x.x.Root ^ 1<<32} {
			wantVerify(t, grown(), x.key, tokenOf(root, x.x.Tag, x.x.L...), false, api.OK)
		}
	}
	// 0 is no tag of what nobody made.
	for _, a := range []api.Arena{{}, {L: []api.Term{}}, grown()} {
		for _, x := range []api.Token{tokenOf(7, 0), tokenOf(7, 0, of(till, 30)), tokenOf(5, 0, of(till, 29)), tokenOf(5, 0, longList()...)} {
			wantVerify(t, a, 9, x, false, api.OK)
		}
	}
	for _, x := range right() {
		wantVerify(t, api.Arena{}, 9, x, false, api.OK)
	}
}

// P7.2: caveats are to be the same in all their parts, and in order.
func TestVerifyCaveats(t *testing.T) {
	l := []api.Caveat{of(till, 30), capOf(7, 300), of(methods, 12), of(till, 30)}
	a := arenaOf(rootTerm(9, 5), nextTerm(0, l[0]), nextTerm(1, l[1]), nextTerm(2, l[2]), nextTerm(3, l[3]))
	wantVerify(t, a, 9, tokenOf(5, 4, l...), true, api.OK)
	for i := range l {
		for _, change := range []func(m []api.Caveat) []api.Caveat{
			func(m []api.Caveat) []api.Caveat { m[i].A++; return m },
			func(m []api.Caveat) []api.Caveat { m[i].A--; return m },
			func(m []api.Caveat) []api.Caveat { m[i].Kind, m[i].B = each, 0; return m },
			func(m []api.Caveat) []api.Caveat { m[i].Kind, m[i].B = all, 299; return m },
			func(m []api.Caveat) []api.Caveat { return m[:i] },
			func(m []api.Caveat) []api.Caveat { return m[i+1:] },
			func(m []api.Caveat) []api.Caveat { return slices.Delete(m, i, i+1) },
			func(m []api.Caveat) []api.Caveat { return slices.Insert(m, i, m[i]) },
			func(m []api.Caveat) []api.Caveat { return append(m, m[i]) },
			func(m []api.Caveat) []api.Caveat { m[i], m[(i+1)%3] = m[(i+1)%3], m[i]; return m },
		} {
			m := change(slices.Clone(l))
			if !slices.Equal(m, l) {
				wantVerify(t, a, 9, tokenOf(5, 4, m...), false, api.OK)
			}
		}
	}
}

// P7.2: terms whose texts are no octets of a number, or of a caveat, are no token's.
func TestVerifyOtherTexts(t *testing.T) {
	for _, text := range [][]byte{nil, {5, 0}, {0, 5}, {253, 0, 5}, {254, 0, 0, 0, 5}, {'5'}, {1, 30}} {
		a := arenaOf(api.Term{Key: 9, Up: -1, Text: text})
		wantVerify(t, a, 9, tokenOf(5, 0), false, api.OK)
		wantMint(t, a, 5, 9, with(a, rootTerm(9, 5)), tokenOf(5, 1), api.OK)
	}
	for _, text := range [][]byte{nil, {1}, {30}, {1, 30, 0}, {1, 253, 0, 30}, {2, 30}, {16, 2, 1, 30}} {
		a := arenaOf(rootTerm(9, 5), api.Term{Up: 0, Text: text})
		wantVerify(t, a, 9, tokenOf(5, 1, of(till, 30)), false, api.OK)
		wantBind(t, a, tokenOf(5, 0), of(till, 30), with(a, nextTerm(0, of(till, 30))), tokenOf(5, 2, of(till, 30)), api.OK)
	}
}

// P7.2
func TestVerifyWrong(t *testing.T) {
	for _, a := range []api.Arena{{}, grown()} {
		for _, x := range wrong() {
			wantVerify(t, a, 9, x, false, api.ErrArg)
		}
	}
}

// P7.3
func TestPut(t *testing.T) {
	for _, x := range []struct {
		x    api.Token
		want []byte
	}{
		{api.Token{}, []byte{1, 1, 0, 2, 1, 0}},
		{tokenOf(5, 2, of(till, 30), of(each, 7)), []byte{1, 1, 5, 2, 1, 2, 16, 2, 1, 30, 17, 2, 3, 7}},
		{tokenOf(252, 253), []byte{1, 1, 252, 2, 3, 253, 0, 253}},
		{tokenOf(65535, 65536), []byte{1, 3, 253, 255, 255, 2, 5, 254, 0, 1, 0, 0}},
		{tokenOf(greatest, mostTag), []byte{1, 9, 255, 255, 255, 255, 255, 255, 255, 255, 255, 2, 5, 254, 0, 16, 0, 0}},
		{tokenOf(0, 0, capOf(300, 7)), []byte{1, 1, 0, 2, 1, 0, 16, 5, 4, 253, 1, 44, 7}},
		{tokenOf(9, 1, of(who, 3), of(who, 3), of(methods, 65535)), []byte{1, 1, 9, 2, 1, 1, 16, 2, 5, 3, 17, 2, 5, 3, 18, 4, 2, 253, 255, 255}},
	} {
		wantPut(t, x.x, x.want, api.OK)
		wantGet(t, x.want, x.x, api.OK)
	}
	for _, x := range wrong() {
		wantPut(t, x, nil, api.ErrArg)
	}
}

// P7.3: types go on from 16, up to 31.
func TestPutTypes(t *testing.T) {
	for n := range mostL + 1 {
		var l []api.Caveat
		want := []byte{1, 1, 5, 2, 1, 3}
		for i := range n {
			l = append(l, of(till, uint64(100+i)))
			want = append(want, byte(16+i), 2, 1, byte(100+i))
		}
		wantPut(t, tokenOf(5, 3, l...), want, api.OK)
		wantGet(t, want, tokenOf(5, 3, l...), api.OK)
	}
}

// P7.3, P7.4: what was put is got.
func TestPutIsGot(t *testing.T) {
	for _, x := range right() {
		b := putBy(x)
		wantPut(t, x, b, api.OK)
		wantGet(t, b, x, api.OK)
		// With one that is not above the last, and with one that is cut off.
		wantGet(t, append(slices.Clone(b), 1), api.Token{}, api.ErrForm)
		wantGet(t, append(slices.Clone(b), 200), api.Token{}, api.ErrShort)
	}
}

// P7.4: no two tokens have the same octets.
func TestPutTellsApart(t *testing.T) {
	seen := map[string]api.Token{}
	for _, x := range right() {
		b, _ := Put(x)
		if other, there := seen[string(b)]; there && !equal(other, x) {
			t.Errorf("%v and %v are both %v", x, other, b)
		}
		seen[string(b)] = x
	}
}

// P7.3: cut off anywhere, there are fewer caveats, or none of a type, or too few octets.
func TestGetCutOff(t *testing.T) {
	for _, x := range []api.Token{{}, tokenOf(5, 2, of(till, 30), of(each, 7)), tokenOf(greatest, mostTag, longList()...), tokenOf(300, 70000, some()...)} {
		b := putBy(x)
		ends := map[int]api.Token{len(putBy(tokenOf(x.Root, x.Tag))): tokenOf(x.Root, x.Tag)}
		for n := range x.L {
			ends[len(putBy(tokenOf(x.Root, x.Tag, x.L[:n]...)))] = tokenOf(x.Root, x.Tag, x.L[:n]...)
		}
		for n := range b {
			y, ends := ends[n]
			switch {
			case n == 0 || n == len(record(1, bigsize.Put(x.Root)...)):
				wantGet(t, b[:n], api.Token{}, api.ErrNone)
			case ends:
				wantGet(t, b[:n], y, api.OK)
			default:
				wantGet(t, b[:n], api.Token{}, api.ErrShort)
				wantGet(t, b[:n:n], api.Token{}, api.ErrShort)
			}
		}
	}
}

// P7.3: what is wrong in the records, ahead of all else.
func TestGetRecords(t *testing.T) {
	head := []byte{1, 1, 5, 2, 1, 2}
	for _, x := range []struct {
		b    []byte
		want api.Errno
	}{
		{[]byte{1}, api.ErrShort}, {[]byte{1, 1}, api.ErrShort}, {[]byte{1, 2, 5}, api.ErrShort}, {[]byte{253}, api.ErrShort},
		{[]byte{2, 1, 2, 1, 1, 5}, api.ErrForm}, {[]byte{1, 1, 5, 1, 1, 5, 2, 1, 2}, api.ErrForm}, {[]byte{1, 1, 5, 2, 1, 2, 2, 1, 2}, api.ErrForm},
		{[]byte{253, 0, 1, 1, 5, 2, 1, 2}, api.ErrForm}, {[]byte{1, 253, 0, 1, 5, 2, 1, 2}, api.ErrForm}, {[]byte{1, 1, 5, 253, 0, 2, 1, 2}, api.ErrForm},
		{append(slices.Clone(head), 17, 2, 1, 30, 16, 2, 3, 7), api.ErrForm},
		{append(slices.Clone(head), 16, 2, 1, 30, 16, 2, 3, 7), api.ErrForm},
		{append(slices.Clone(head), 16, 253, 16, 1), api.ErrLong},
		{append(slices.Clone(head), 16, 2, 1), api.ErrShort},
		// Without types 1 and 2, or with others, all the same.
		{[]byte{7, 1}, api.ErrShort}, {[]byte{7, 0, 6, 0}, api.ErrForm}, {[]byte{7, 253, 16, 1}, api.ErrLong}, {[]byte{1, 0, 1, 0}, api.ErrForm}, {[]byte{1, 0, 3, 1}, api.ErrShort},
		{bytes.Repeat([]byte{0}, 65536), api.ErrLong}, {bytes.Repeat([]byte{0}, 65535), api.ErrForm},
		{append(slices.Clone(head), make([]byte, 65536)...), api.ErrLong},
	} {
		wantGet(t, x.b, api.Token{}, x.want)
	}
	// As many records as there may be are no token, and one more is too long.
	var b []byte
	for i := range 64 {
		b = append(b, byte(i), 1, 5)
	}
	wantGet(t, b, api.Token{}, api.ErrForm)
	wantGet(t, append(b, 64, 1, 5), api.Token{}, api.ErrLong)
}

// P7.3: one that is missing is told ahead of all but what is wrong in the records.
func TestGetNone(t *testing.T) {
	for _, b := range [][]byte{
		nil, {}, {1, 1, 5}, {2, 1, 2}, {0, 0}, {3, 0}, {16, 2, 1, 30}, {32, 0}, {0, 1, 5, 3, 1, 2},
		{1, 1, 5, 16, 2, 1, 30}, {2, 1, 2, 16, 2, 1, 30}, {1, 1, 5, 3, 1, 2}, {0, 1, 5, 2, 1, 2}, {0, 0, 1, 1, 5}, {1, 1, 5, 40, 0},
		// With numbers that are none.
		{1, 0}, {1, 2, 5, 5}, {1, 3, 253, 0, 5}, {1, 1, 253}, {2, 0}, {2, 2, 5, 5}, {2, 3, 253, 0, 5}, {2, 5, 254, 0, 16, 0, 1},
		// With caveats that are none, and types that are missing.
		{1, 1, 5, 16, 1, 9}, {2, 1, 2, 16, 0}, {2, 1, 2, 17, 2, 1, 30}, {1, 0, 17, 0},
	} {
		wantGet(t, b, api.Token{}, api.ErrNone)
	}
}

// P7.3: a number's error is told ahead of all behind it: Root's, then Tag's.
func TestGetNumbers(t *testing.T) {
	for _, x := range []struct {
		v    []byte
		want api.Errno
	}{
		{nil, api.ErrShort}, {[]byte{253}, api.ErrShort}, {[]byte{253, 1}, api.ErrShort}, {[]byte{254, 0, 0, 0}, api.ErrShort}, {[]byte{255, 0, 0, 0, 0, 0, 0, 0}, api.ErrShort},
		{[]byte{5, 5}, api.ErrForm}, {[]byte{5, 253}, api.ErrForm}, {[]byte{253, 0, 5}, api.ErrForm}, {[]byte{253, 0, 252}, api.ErrForm}, {[]byte{254, 0, 0, 255, 255}, api.ErrForm},
		{[]byte{255, 0, 0, 0, 0, 255, 255, 255, 255}, api.ErrForm}, {[]byte{253, 1, 44, 0}, api.ErrForm}, {make([]byte, longest), api.ErrForm},
	} {
		// Behind are another type, one that is missing, a Tag that is too great, and caveats that are none.
		for _, behind := range [][]byte{nil, record(3), record(17, 1, 30), record(16), record(16, 9), record(32), record(16, 1, 30)} {
			for _, ahead := range [][]byte{nil, record(0), record(0, 1)} {
				wantGet(t, slices.Concat(ahead, record(1, x.v...), record(2, 2), behind), api.Token{}, x.want)
				wantGet(t, slices.Concat(ahead, record(1, 5), record(2, x.v...), behind), api.Token{}, x.want)
				wantGet(t, slices.Concat(ahead, record(1, x.v...), record(2, bigsize.Put(mostTag+1)...), behind), api.Token{}, x.want)
				wantGet(t, slices.Concat(ahead, record(1, x.v...), record(2), behind), api.Token{}, x.want)
				wantGet(t, slices.Concat(ahead, record(1, x.v...), record(2, 5, 5), behind), api.Token{}, x.want)
			}
		}
	}
}

// P7.3: a Tag that is too great, or another type, or one that is missing, is told ahead of caveats that are none.
func TestGetForm(t *testing.T) {
	head := []byte{1, 1, 5, 2, 1, 2}
	caveats := [][]byte{nil, record(16, 1, 30), record(16), record(16, 1), record(16, 9)}
	for _, tag := range []uint64{mostTag + 1, mostTag + 2, 1 << 32, 1<<32 + 2, 1 << 62, 1<<63 - 1, 1 << 63, 1<<63 + 2, greatest} {
		for _, c := range caveats {
			wantGet(t, slices.Concat(record(1, 5), record(2, bigsize.Put(tag)...), c), api.Token{}, api.ErrForm)
		}
	}
	for _, v := range [][]byte{nil, {1}, {1, 30}} {
		wantGet(t, slices.Concat(record(0, v...), head), api.Token{}, api.ErrForm)
		for other := uint64(3); other < 16; other++ {
			for _, c := range caveats {
				wantGet(t, slices.Concat(head, record(other, v...), c), api.Token{}, api.ErrForm)
			}
		}
		for _, other := range []uint64{32, 33, 34, 47, 48, 63, 64, 252, 253, 272, 65535, 65552, 1 << 32, 1<<32 + 16, 1 << 63, greatest} {
			for _, c := range caveats {
				wantGet(t, slices.Concat(head, c, record(other, v...)), api.Token{}, api.ErrForm)
			}
			// Also behind all that may be.
			wantGet(t, append(putBy(tokenOf(5, 2, longList()...)), record(other, v...)...), api.Token{}, api.ErrForm)
		}
	}
}

// P7.3: of the types from 16 to 31, those that may be there are the first ones.
func TestGetMissing(t *testing.T) {
	for set := range 1 << mostL {
		b := []byte{1, 1, 5, 2, 1, 2}
		var l []api.Caveat
		for i := range mostL {
			if set>>i&1 == 1 {
				b = append(b, byte(16+i), 2, 1, byte(i))
				l = append(l, of(till, uint64(i)))
			}
		}
		if set&(set+1) == 0 {
			wantGet(t, b, tokenOf(5, 2, l...), api.OK)
		} else {
			wantGet(t, b, api.Token{}, api.ErrForm)
		}
	}
}

// P7.3: the first caveat that has an error tells it.
func TestGetCaveats(t *testing.T) {
	short := [][]byte{nil, {1}, {4, 1}, {253}, {3, 255, 0}, {4, 255, 64, 0, 0, 0, 0, 0, 0, 1}}
	form := [][]byte{{0}, {6, 1}, {9}, {1, 30, 0}, {253, 0, 1, 30}, {1, 253, 0, 30}, {2, 254, 0, 1, 0, 0}, {3, 255, 64, 0, 0, 0, 0, 0, 0, 1}, {4, 1, 2, 3}, make([]byte, longest)}
	for n := 1; n <= mostL; n++ {
		for at := range n {
			for _, x := range []struct {
				wrong, behind [][]byte
				want          api.Errno
			}{{short, form, api.ErrShort}, {form, short, api.ErrForm}} {
				for k, v := range x.wrong {
					one, two := []byte{1, 1, 5, 2, 1, 2}, []byte{1, 1, 5, 2, 1, 2}
					for i := range n {
						switch {
						case i == at:
							one, two = append(one, record(uint64(16+i), v...)...), append(two, record(uint64(16+i), v...)...)
						case i > at:
							one, two = append(one, record(uint64(16+i), 1, 30)...), append(two, record(uint64(16+i), x.behind[k%len(x.behind)]...)...)
						default:
							one, two = append(one, record(uint64(16+i), 1, 30)...), append(two, record(uint64(16+i), 4, 1, 2)...)
						}
					}
					wantGet(t, one, api.Token{}, x.want)
					wantGet(t, two, api.Token{}, x.want)
				}
			}
		}
	}
}

// P7.3: all lists of up to five of a few records, in the order of their types.
func TestGetSmall(t *testing.T) {
	few := [][]byte{
		record(0), record(1, 5), record(1), record(2, 2), record(2, 2, 2), record(2, bigsize.Put(mostTag)...), record(2, bigsize.Put(mostTag+1)...), record(3, 1),
		record(15, 1, 30), record(16, 1, 30), record(16), record(17, 3, 7), record(17, 9), record(18, 4, 1, 1), record(18, 4, 1), record(32, 1, 30),
	}
	n := 0
	var hold func(b []byte, from, more int)
	hold = func(b []byte, from, more int) {
		x, e := getBy(b)
		wantGet(t, b, x, e)
		if e == api.OK {
			n++
			wantPut(t, x, b, api.OK)
		}
		for i := from; more > 0 && i < len(few); i++ {
			hold(append(slices.Clone(b), few[i]...), i+1, more-1)
		}
	}
	hold(nil, 0, 5)
	if n == 0 {
		t.Error("none of them is a token")
	}
}

// made is a token that was minted, and bound, by a key.
type made struct {
	key uint64
	x   api.Token
}

// way is how a token is made, as one string that no other way has.
func (m made) way() string { return fmt.Sprint(m.key, m.x.Root, m.x.L) }

// maker mints and binds, and holds what is told against all that was made.
type maker struct {
	t    *testing.T
	a    api.Arena
	tags map[string]int
	all  []made
}

// take takes what a call told of the way of that key, root and caveats.
func (m *maker) take(a api.Arena, x api.Token, e api.Errno, key, root uint64, l []api.Caveat) {
	m.t.Helper()
	want := made{key, tokenOf(root, len(m.tags), l...)}
	tag, there := m.tags[want.way()]
	if there {
		want.x.Tag = tag
	} else {
		m.tags[want.way()] = want.x.Tag
		m.all = append(m.all, want)
	}
	if !equal(x, want.x) || e != api.OK || len(a.L) != len(m.tags) || !equalArenas(m.a, arenaOf(a.L[:len(m.a.L)]...)) {
		m.t.Fatalf("%s: %v, %d, with %d terms; want %v, with %d", want.way(), x, e, len(a.L), want.x, len(m.tags))
	}
	m.a = a
}

func (m *maker) mint(root, key uint64) {
	m.t.Helper()
	a, x, e := Mint(m.a, root, key)
	m.take(a, x, e, key, root, nil)
}

func (m *maker) bind(i int, c api.Caveat) {
	m.t.Helper()
	from := m.all[i]
	a, x, e := Bind(m.a, from.x, c)
	m.take(a, x, e, from.key, from.x.Root, append(slices.Clone(from.x.L), c))
}

// hold asks of all that was made, and of each with the key, the Tag, the caveats, or the root of each other one, whether it is right.
func (m *maker) hold() {
	m.t.Helper()
	for _, x := range m.all {
		wantVerify(m.t, m.a, x.key, x.x, true, api.OK)
		b, _ := Put(x.x)
		wantGet(m.t, b, x.x, api.OK)
		for _, y := range m.all {
			for _, z := range []made{
				{y.key, x.x}, {x.key, tokenOf(x.x.Root, y.x.Tag, x.x.L...)}, {x.key, tokenOf(x.x.Root, x.x.Tag, y.x.L...)}, {x.key, tokenOf(y.x.Root, x.x.Tag, x.x.L...)},
			} {
				tag, there := m.tags[z.way()]
				wantVerify(m.t, m.a, z.key, z.x, there && tag == z.x.Tag, api.OK)
				if same := z.key == x.key && equal(z.x, x.x); same != (there && tag == z.x.Tag) {
					m.t.Errorf("%v by %d is right, and so is %v by %d", x.x, x.key, z.x, z.key)
				}
			}
		}
	}
}

func newMaker(t *testing.T) *maker { return &maker{t: t, tags: map[string]int{}} }

// P7.4: all that is bound to at most two of a few caveats, each made twice.
func TestRightByItsKeyAlone(t *testing.T) {
	m := newMaker(t)
	for range 2 {
		for _, key := range []uint64{0, 9, greatest} {
			for _, root := range []uint64{0, 5, greatest} {
				m.mint(root, key)
			}
		}
		for i := 0; i < len(m.all); i++ {
			if len(m.all[i].x.L) < 2 {
				for _, c := range []api.Caveat{of(till, 5), of(who, 5), capOf(5, 0)} {
					m.bind(i, c)
				}
			}
		}
	}
	if len(m.all) != 9*(1+3+9) {
		t.Errorf("%d tokens", len(m.all))
	}
	m.hold()
}

// P7.4: no caveat is another one, also where the octets of several stand in a row.
func TestCaveatsStandAlone(t *testing.T) {
	m := newMaker(t)
	m.mint(1, 9)
	for _, c := range []api.Caveat{of(till, 1), of(till, 5), capOf(1, 5), capOf(5, 1), of(who, 1), of(who, 4), of(till, 4)} {
		m.bind(0, c)
	}
	for i := 1; i < 8; i++ {
		for _, c := range []api.Caveat{of(till, 1), capOf(1, 5), of(who, 1)} {
			m.bind(i, c)
		}
	}
	m.hold()
}

// P7.4, the chapter's example.
func TestRootFive(t *testing.T) {
	a, x, e := Mint(api.Arena{}, 5, 9)
	if e != api.OK {
		t.Fatalf("Mint = %d", e)
	}
	wantVerify(t, a, 9, x, true, api.OK)
	wantVerify(t, a, 8, x, false, api.OK)
}

// P7.4: what was made stays right, whatever is made behind it, and read from its octets too.
func TestStaysRight(t *testing.T) {
	a, x, _ := Mint(api.Arena{}, 5, 9)
	a, x, _ = Bind(a, x, of(till, 30))
	b, _ := Put(x)
	for n := range uint64(40) {
		var y api.Token
		a, y, _ = Mint(a, n, n+1)
		a, _, _ = Bind(a, y, of(till, 30))
		a, _, _ = Bind(a, x, of(each, n))
		wantVerify(t, a, 9, x, true, api.OK)
	}
	y, e := Get(b)
	if e != api.OK {
		t.Fatalf("Get = %d", e)
	}
	wantVerify(t, a, 9, y, true, api.OK)
	wantVerify(t, a, 8, y, false, api.OK)
}

// R2: what is handed in stays, with the room behind it, and what is told shares nothing with it, nor with what was told ahead.
func TestToldIsNew(t *testing.T) {
	for _, size := range []int{0, 1, 2, 3, 15} {
		for _, c := range []api.Caveat{of(till, 30), of(who, 77)} {
			room := append(cloneArena(grown()).L, rootTerm(55, 55), rootTerm(56, 56))
			a := arenaOf(room[:10]...)
			behind := append(slices.Repeat([]api.Caveat{of(who, 3)}, size), of(who, 4), of(who, 5))
			x := tokenOf(5, 0, behind[:size]...)
			keptRoom, keptBehind := cloneArena(arenaOf(room...)), slices.Clone(behind)
			got, y, e := Bind(a, x, c)
			again, z, _ := Bind(a, x, c)
			want, wantZ := cloneArena(again), clone(z)
			if e != api.OK || !equalArenas(got, want) || !equal(y, wantZ) {
				t.Fatalf("Bind = %s, %v, %d, and then %s, %v", brief(got), y, e, brief(want), wantZ)
			}
			wipeArena(got)
			wipeToken(y)
			if !equalArenas(arenaOf(room...), keptRoom) || !slices.Equal(behind, keptBehind) || !equalArenas(again, want) || !equal(z, wantZ) {
				t.Errorf("Bind of %d caveats: what is told is not new, or what was handed in changed", size)
			}
			wipeArena(arenaOf(room...))
			wipeToken(tokenOf(0, 0, behind...))
			if !equalArenas(again, want) || !equal(z, wantZ) {
				t.Errorf("Bind of %d caveats: what was told hangs on what was handed in", size)
			}
		}
	}
}

// R2
func TestMintIsNew(t *testing.T) {
	for _, root := range []uint64{5, 77} {
		room := append(cloneArena(grown()).L, rootTerm(55, 55), rootTerm(56, 56))
		kept := cloneArena(arenaOf(room...))
		got, _, _ := Mint(arenaOf(room[:10]...), root, 9)
		again, _, _ := Mint(arenaOf(room[:10]...), root, 9)
		want := cloneArena(again)
		wipeArena(got)
		if !equalArenas(arenaOf(room...), kept) || !equalArenas(again, want) {
			t.Errorf("Mint of %d: what is told is not new, or what was handed in changed", root)
		}
		wipeArena(arenaOf(room...))
		if !equalArenas(again, want) {
			t.Errorf("Mint of %d: what was told hangs on what was handed in", root)
		}
	}
}

// R2: two that are bound from one token do not get in each other's way.
func TestBoundApart(t *testing.T) {
	a, x, _ := Mint(api.Arena{}, 5, 9)
	for _, c := range some()[:5] {
		a, x, _ = Bind(a, x, c)
		b, y, _ := Bind(a, x, of(who, 1))
		c, z, _ := Bind(a, x, of(who, 2))
		wantVerify(t, b, 9, y, true, api.OK)
		wantVerify(t, c, 9, z, true, api.OK)
		wantVerify(t, b, 9, z, false, api.OK)
		wantVerify(t, a, 9, y, false, api.OK)
		wantVerify(t, a, 9, x, true, api.OK)
	}
}

// R2
func TestPutAndGetAreNew(t *testing.T) {
	for _, x := range right() {
		b, _ := Put(x)
		again, _ := Put(x)
		wipe(b)
		if !bytes.Equal(again, putBy(x)) {
			t.Errorf("Put(%v) shares what it told: %v", x, again)
		}
		b = append(putBy(x), 1, 2, 3)
		kept := slices.Clone(b)
		y, _ := Get(b[:len(b)-3])
		z, _ := Get(b[:len(b)-3])
		wipeToken(y)
		if !bytes.Equal(b, kept) || !equal(z, x) {
			t.Errorf("Get(%v): what is told is not new, or what was handed in changed: %v, %v", kept, b, z)
		}
		wipe(b)
		if !equal(z, x) {
			t.Errorf("Get(%v): what was told hangs on what was handed in: %v", kept, z)
		}
	}
}

// R2
func TestHandedInStays(t *testing.T) {
	arenas := wrongArenas()
	arenas["none"], arenas["some"] = api.Arena{}, grown()
	for name, a := range arenas {
		kept := cloneArena(a)
		for _, x := range append(right(), wrong()...) {
			room := append(slices.Clone(x.L), of(who, 4), of(who, 5))
			y := tokenOf(x.Root, x.Tag, room[:len(x.L)]...)
			Check(y)
			Same(y, y)
			Mint(a, y.Root, 9)
			Bind(a, y, of(till, 30))
			Verify(a, 9, y)
			Put(y)
			if !equalArenas(a, kept) || !equal(y, x) || !slices.Equal(room[len(x.L):], []api.Caveat{of(who, 4), of(who, 5)}) {
				t.Fatalf("%s: what was handed in changed: %s, %v", name, brief(a), y)
			}
		}
	}
}

// FuzzGet holds Get against the chapter's words, and Put against Get.
func FuzzGet(f *testing.F) {
	for _, x := range right() {
		f.Add(putBy(x))
	}
	f.Add([]byte{1, 1, 5, 2, 1, 2, 17, 2, 1, 30})
	f.Add([]byte{0, 0, 1, 1, 5, 2, 1, 2, 32, 1, 9})
	f.Fuzz(func(t *testing.T, b []byte) {
		x, e := getBy(b)
		wantGet(t, b, x, e)
		if e == api.OK {
			wantPut(t, x, b, api.OK)
		}
	})
}

// FuzzMake mints and binds as the octets say, three for each, and asks whether all of it is right, and nothing else.
func FuzzMake(f *testing.F) {
	f.Add([]byte{0, 5, 9, 1, 0, 30, 2, 1, 7, 1, 0, 30})
	f.Add([]byte{0, 0, 0, 0, 1, 0, 0, 0, 1, 3, 0, 1, 3, 1, 1})
	f.Fuzz(func(t *testing.T, b []byte) {
		m := newMaker(t)
		for ; len(b) >= 3 && len(m.all) < 20; b = b[3:] {
			if len(m.all) == 0 || b[0]%4 == 0 {
				m.mint(uint64(b[1]), uint64(b[2]))
				continue
			}
			i := int(b[1]) % len(m.all)
			if len(m.all[i].x.L) < mostL {
				m.bind(i, of(1+int(b[0])%5, uint64(b[2])))
			}
		}
		m.hold()
	})
}
