package frame

import (
	"bytes"
	"fmt"
	"slices"
	"testing"

	"damson/api"
)

// bad is a reader to which something came that is no frame.
var bad = api.Reader{Bad: true}

// reader is one that is not Bad, with what came of its frame.
func reader(b ...byte) api.Reader { return api.Reader{B: b} }

// octets are n that differ from place to place, and none of them 0.
func octets(n int) []byte {
	b := make([]byte, n)
	for i := range b {
		b[i] = byte(i%251 + 1)
	}
	return b
}

// framed is a text's frame, worked out apart from Put.
func framed(b []byte) []byte {
	return slices.Concat([]byte{byte(len(b) / 256), byte(len(b) % 256)}, b)
}

// row are the frames of texts, one behind the other.
func row(texts ...[]byte) []byte {
	var b []byte
	for _, x := range texts {
		b = append(b, framed(x)...)
	}
	return b
}

// equal and equalTexts are worked out apart from Same.
func equal(a, b api.Reader) bool { return a.Bad == b.Bad && string(a.B) == string(b.B) }

func equalTexts(a, b [][]byte) bool { return slices.EqualFunc(a, b, bytes.Equal) }

func cloneReader(r api.Reader) api.Reader { return api.Reader{B: bytes.Clone(r.B), Bad: r.Bad} }

// wipe writes over all octets, and those behind their end.
func wipe(b []byte) {
	b = b[:cap(b)]
	for i := range b {
		b[i] ^= 0xff
	}
}

// short tells the first octets, and how many there are.
func short(b []byte) string { return fmt.Sprintf("%v.. (%d)", b[:min(len(b), 12)], len(b)) }

func wantFeed(t *testing.T, r api.Reader, b []byte, next api.Reader, texts [][]byte, e api.Errno) {
	t.Helper()
	gotNext, gotTexts, gotE := Feed(r, b)
	if !equal(gotNext, next) || !equalTexts(gotTexts, texts) || gotE != e {
		t.Errorf("Feed({%s, %t}, %s) = {%s, %t}, %d texts, %d; want {%s, %t}, %d texts, %d", short(r.B), r.Bad, short(b),
			short(gotNext.B), gotNext.Bad, len(gotTexts), gotE, short(next.B), next.Bad, len(texts), e)
	}
}

func wantWants(t *testing.T, r api.Reader, n int, e api.Errno) {
	t.Helper()
	if got, gotE := Wants(r); got != n || gotE != e {
		t.Errorf("Wants({%s, %t}) = %d, %d; want %d, %d", short(r.B), r.Bad, got, gotE, n, e)
	}
}

// good are readers that may be, with how many octets they want.
func good() map[string]struct {
	r     api.Reader
	wants int
} {
	return map[string]struct {
		r     api.Reader
		wants int
	}{
		"nothing came":                        {api.Reader{}, 2},
		"empty":                               {reader([]byte{}...), 2},
		"bad":                                 {bad, 0},
		"bad, empty":                          {api.Reader{B: []byte{}, Bad: true}, 0},
		"one octet":                           {reader(0), 1},
		"one octet of the greatest":           {reader(16), 1},
		"one octet that will be too great":    {reader(17), 1},
		"one octet of all bits":               {reader(255), 1},
		"head of one":                         {reader(0, 1), 1},
		"head of two":                         {reader(0, 2), 2},
		"half of two":                         {reader(0, 2, 9), 1},
		"head of 255":                         {reader(0, 255), 255},
		"head of 256":                         {reader(1, 0), 256},
		"head of 258":                         {reader(1, 2), 258},
		"one of 258":                          {reader(1, 2, 9), 257},
		"all but one of 258":                  {reader(append([]byte{1, 2}, octets(257)...)...), 1},
		"head of 4095":                        {reader(15, 255), 4095},
		"head of MaxFrame":                    {reader(16, 0), 4096},
		"one of MaxFrame":                     {reader(16, 0, 0), 4095},
		"all but one of MaxFrame":             {reader(append([]byte{16, 0}, octets(4095)...)...), 1},
		"a frame within that is not whole":    {reader(0, 5, 0, 1, 7), 2},
		"what is too great within, not ahead": {reader(0, 5, 255, 255), 3},
	}
}

// wrong are readers that may not be.
func wrong() map[string]api.Reader {
	return map[string]api.Reader{
		"bad, with an octet":              {B: []byte{1}, Bad: true},
		"bad, with octet 0":               {B: []byte{0}, Bad: true},
		"bad, with the head of one":       {B: []byte{0, 1}, Bad: true},
		"bad, with what is too great":     {B: []byte{16, 1}, Bad: true},
		"bad, with a whole frame":         {B: []byte{0, 1, 7}, Bad: true},
		"a whole frame of none":           reader(0, 0),
		"more than a frame of none":       reader(0, 0, 0),
		"a whole frame of one":            reader(0, 1, 2),
		"more than a frame of one":        reader(0, 1, 2, 3),
		"two frames":                      reader(0, 1, 2, 0, 1, 2),
		"a whole frame of 258":            reader(framed(octets(258))...),
		"a whole frame of MaxFrame":       reader(framed(octets(4096))...),
		"more than a frame of MaxFrame":   reader(append(framed(octets(4096)), 1)...),
		"one above MaxFrame":              reader(16, 1),
		"one above MaxFrame, more behind": reader(16, 1, 5, 6),
		"one above MaxFrame, whole":       reader(framed(octets(4097))...),
		"256 above MaxFrame":              reader(17, 0),
		"the greatest that can be told":   reader(255, 255),
		"the greatest, whole":             reader(framed(octets(65535))...),
	}
}

// P3.1
func TestPut(t *testing.T) {
	for _, x := range []struct{ b, want []byte }{
		{nil, []byte{0, 0}},
		{[]byte{}, []byte{0, 0}},
		{[]byte("hi"), []byte{0, 2, 'h', 'i'}},
		{[]byte{0}, []byte{0, 1, 0}},
		{[]byte{0, 2, 'h', 'i'}, []byte{0, 4, 0, 2, 'h', 'i'}},
		{octets(255), append([]byte{0, 255}, octets(255)...)},
		{octets(256), append([]byte{1, 0}, octets(256)...)},
		{octets(258), append([]byte{1, 2}, octets(258)...)},
		{octets(4095), append([]byte{15, 255}, octets(4095)...)},
		{octets(4096), append([]byte{16, 0}, octets(4096)...)},
	} {
		if f, e := Put(x.b); !bytes.Equal(f, x.want) || e != api.OK {
			t.Errorf("Put(%s) = %s, %d", short(x.b), short(f), e)
		}
	}
	for n := range api.MaxFrame + 1 {
		if f, e := Put(octets(n)); !bytes.Equal(f, framed(octets(n))) || e != api.OK {
			t.Errorf("Put of %d octets = %s, %d", n, short(f), e)
		}
	}
}

// P3.1
func TestPutLong(t *testing.T) {
	for _, n := range []int{4097, 4098, 8192, 65535, 65536, 65537, 1 << 17} {
		if f, e := Put(make([]byte, n)); len(f) != 0 || e != api.ErrLong {
			t.Errorf("Put of %d octets = %s, %d", n, short(f), e)
		}
	}
}

// P3.1
func TestCheck(t *testing.T) {
	for name, x := range good() {
		if e := Check(x.r); e != api.OK {
			t.Errorf("%s: Check = %d", name, e)
		}
	}
	for name, r := range wrong() {
		if e := Check(r); e != api.ErrArg {
			t.Errorf("%s: Check = %d", name, e)
		}
	}
}

// P3.1, P3.3: of every head that there is, with nothing, one octet, all but one, all, and more than all behind it.
func TestEveryHead(t *testing.T) {
	room := make([]byte, 2+4098)
	for n := range 1 << 16 {
		room[0], room[1] = byte(n>>8), byte(n)
		for _, behind := range []int{0, 1, n - 1, n, n + 1} {
			if behind < 0 || 2+behind > len(room) {
				continue
			}
			r := reader(room[:2+behind]...)
			want := api.ErrArg
			if n <= 4096 && behind < n {
				want = api.OK
			}
			if e := Check(r); e != want {
				t.Fatalf("Check of %d behind the head of %d = %d; want %d", behind, n, e, want)
			}
			left := 0
			if want == api.OK {
				left = n - behind
			}
			wantWants(t, r, left, want)
		}
	}
}

// P3.1
func TestSame(t *testing.T) {
	l := []api.Reader{
		{}, bad, reader(0), reader(1), reader(0, 1), reader(0, 2), reader(0, 2, 0), reader(0, 2, 1),
		// Those that may not be can be held against each other too.
		{B: []byte{0}, Bad: true}, {B: []byte{0, 2}, Bad: true}, reader(0, 0), reader(16, 1),
	}
	for i, a := range l {
		for k, b := range l {
			if Same(a, cloneReader(b)) != (i == k) {
				t.Errorf("Same(%v, %v) = %t", a, b, i != k)
			}
		}
	}
	// R3
	if !Same(api.Reader{B: []byte{}}, api.Reader{}) || !Same(bad, api.Reader{B: []byte{}, Bad: true}) {
		t.Errorf("no octets are not the same as none")
	}
}

// P3.2
func TestFeed(t *testing.T) {
	hi := []byte("hi")
	for _, x := range []struct {
		r     api.Reader
		b     []byte
		next  api.Reader
		texts [][]byte
	}{
		{reader(), nil, reader(), nil},
		{reader(), []byte{}, reader(), nil},
		{reader(0, 2, 9), nil, reader(0, 2, 9), nil},
		{reader(), []byte{0}, reader(0), nil},
		{reader(), []byte{0, 2}, reader(0, 2), nil},
		{reader(), []byte{0, 2, 'h'}, reader(0, 2, 'h'), nil},
		{reader(), []byte{0, 2, 'h', 'i'}, reader(), [][]byte{hi}},
		{reader(0), []byte{2, 'h', 'i'}, reader(), [][]byte{hi}},
		{reader(0, 2), []byte{'h', 'i'}, reader(), [][]byte{hi}},
		{reader(0, 2, 'h'), []byte{'i'}, reader(), [][]byte{hi}},
		{reader(0, 2, 'h'), []byte{'i', 0}, reader(0), [][]byte{hi}},
		{reader(0, 2, 'h'), []byte{'i', 0, 2, 'h', 'i', 0, 3, 1, 2}, reader(0, 3, 1, 2), [][]byte{hi, hi}},
		{reader(), []byte{0, 0}, reader(), [][]byte{nil}},
		{reader(0), []byte{0}, reader(), [][]byte{nil}},
		{reader(), []byte{0, 0, 0, 0, 0}, reader(0), [][]byte{nil, nil}},
		{reader(), []byte{1, 2, 9}, reader(1, 2, 9), nil},
		// A text of frames is one text.
		{reader(), row(row(hi, nil), hi), reader(), [][]byte{row(hi, nil), hi}},
		{reader(), row([]byte{16, 1}, hi), reader(), [][]byte{{16, 1}, hi}},
	} {
		wantFeed(t, x.r, x.b, x.next, x.texts, api.OK)
	}
}

// P3.2
func TestFeedMaxFrame(t *testing.T) {
	great := octets(api.MaxFrame)
	f := framed(great)
	wantFeed(t, reader(), f, reader(), [][]byte{great}, api.OK)
	wantFeed(t, reader(), append(bytes.Clone(f), f...), reader(), [][]byte{great, great}, api.OK)
	for _, cut := range []int{0, 1, 2, 3, 2048, len(f) - 1} {
		wantFeed(t, reader(), f[:cut], reader(f[:cut]...), nil, api.OK)
		wantFeed(t, reader(f[:cut]...), f[cut:], reader(), [][]byte{great}, api.OK)
	}
}

// P3.2
func TestFeedTooGreat(t *testing.T) {
	hi := []byte("hi")
	for _, head := range [][]byte{{16, 1}, {16, 255}, {17, 0}, {128, 0}, {255, 255}} {
		wantFeed(t, reader(), head, bad, nil, api.OK)
		wantFeed(t, reader(head[0]), head[1:], bad, nil, api.OK)
		// One octet does not tell yet.
		wantFeed(t, reader(), head[:1], reader(head[0]), nil, api.OK)
		wantFeed(t, reader(head[0]), nil, reader(head[0]), nil, api.OK)
		// What is whole ahead is told; what stands behind, however much, is not.
		wantFeed(t, reader(), slices.Concat(row(hi, nil), head, row(hi)), bad, [][]byte{hi, nil}, api.OK)
		wantFeed(t, reader(0, 2, 'h'), slices.Concat([]byte{'i'}, head), bad, [][]byte{hi}, api.OK)
		wantFeed(t, reader(), slices.Concat(row(hi), head[:1]), reader(head[0]), [][]byte{hi}, api.OK)
	}
	wantFeed(t, reader(), framed(octets(4097)), bad, nil, api.OK)
	wantFeed(t, reader(), append(framed(octets(4097)), row(hi)...), bad, nil, api.OK)
	wantFeed(t, reader(), framed(octets(65533)), bad, nil, api.OK)
}

// P3.2
func TestFeedBadStays(t *testing.T) {
	pieces := [][]byte{nil, {}, {0}, {0, 0}, row([]byte("hi")), {16, 1}, octets(api.MaxText)}
	for _, b := range pieces {
		wantFeed(t, bad, b, bad, nil, api.OK)
		wantFeed(t, api.Reader{B: []byte{}, Bad: true}, b, bad, nil, api.OK)
	}
	r, _, _ := Feed(api.Reader{}, []byte{16, 1})
	for range 3 {
		for _, b := range pieces {
			var l [][]byte
			var e api.Errno
			if r, l, e = Feed(r, b); !equal(r, bad) || len(l) != 0 || e != api.OK {
				t.Fatalf("Feed of one that is Bad = %v, %d texts, %d", r, len(l), e)
			}
		}
	}
}

// P3.2
func TestFeedMaxText(t *testing.T) {
	// Octets 0 are frames of no octets, and one is left of the last.
	wantFeed(t, reader(), make([]byte, api.MaxText), reader(0), make([][]byte, 32767), api.OK)
	wantFeed(t, reader(0), make([]byte, api.MaxText), reader(), make([][]byte, 32768), api.OK)
	var texts [][]byte
	for range 15 {
		texts = append(texts, octets(api.MaxFrame))
	}
	all := row(texts...)
	b := append(bytes.Clone(all), []byte{16, 0}...)
	b = append(b, octets(api.MaxText-len(b))...)
	wantFeed(t, reader(), b, reader(b[len(all):]...), texts, api.OK)
	// As much as can stand ahead, and as much as can come.
	whole := framed(octets(api.MaxFrame))
	begun := reader(whole[:len(whole)-1]...)
	c := append([]byte{whole[len(whole)-1]}, b[:api.MaxText-1]...)
	wantFeed(t, begun, c, reader(b[len(all):api.MaxText-1]...), append([][]byte{octets(api.MaxFrame)}, texts...), api.OK)
}

// P3.2: the errors, and that the one that the chapter names first is told.
func TestFeedWrong(t *testing.T) {
	long := make([]byte, api.MaxText+1)
	tooGreat := append([]byte{255, 255}, octets(api.MaxText)...)
	for _, b := range [][]byte{long, tooGreat, make([]byte, 1<<17)} {
		for _, x := range good() {
			wantFeed(t, x.r, b, api.Reader{}, nil, api.ErrLong)
		}
	}
	for _, r := range wrong() {
		for _, b := range [][]byte{nil, {0}, {0, 0}, {16, 1}, row([]byte("hi")), make([]byte, api.MaxText), long, tooGreat} {
			wantFeed(t, r, b, api.Reader{}, nil, api.ErrArg)
		}
	}
}

// P3.3
func TestWants(t *testing.T) {
	for _, x := range good() {
		wantWants(t, x.r, x.wants, api.OK)
	}
	for _, r := range wrong() {
		wantWants(t, r, 0, api.ErrArg)
	}
	for n := 1; n <= api.MaxFrame; n += 15 {
		f := framed(octets(n))
		wantWants(t, reader(f[:2]...), n, api.OK)
		wantWants(t, reader(f[:2+n/2]...), n-n/2, api.OK)
		wantWants(t, reader(f[:1+n]...), 1, api.OK)
	}
}

// P3.3: with fewer than are wanted no text is told; and, if the head is whole, with as many one is.
func TestWantsIsTheFewest(t *testing.T) {
	for name, x := range good() {
		for k := range x.wants {
			if _, l, e := Feed(x.r, make([]byte, k)); len(l) != 0 || e != api.OK {
				t.Errorf("%s: of %d octets %d texts came, %d", name, k, len(l), e)
			}
		}
		_, l, e := Feed(x.r, make([]byte, x.wants))
		if len(x.r.B) >= 2 && len(l) != 1 || e != api.OK {
			t.Errorf("%s: of %d octets %d texts came, %d", name, x.wants, len(l), e)
		}
	}
	// With a head that is not whole, as many are enough if they tell of no octets.
	wantFeed(t, reader(), make([]byte, 2), reader(), [][]byte{nil}, api.OK)
	wantFeed(t, reader(0), make([]byte, 1), reader(), [][]byte{nil}, api.OK)
}

// cuts goes through all ways to cut b into pieces, by the bits of which places are cut.
func cuts(b []byte, do func(pieces [][]byte)) {
	for places := range 1 << max(len(b)-1, 0) {
		var pieces [][]byte
		from := 0
		for i := 1; i < len(b); i++ {
			if places>>(i-1)&1 == 1 {
				pieces = append(pieces, b[from:i])
				from = i
			}
		}
		do(append(pieces, b[from:]))
	}
}

// feedAll feeds pieces one behind the other; between them it asks whether the reader may be, and what it wants.
func feedAll(t *testing.T, pieces [][]byte) (api.Reader, [][]byte) {
	t.Helper()
	var r api.Reader
	var texts [][]byte
	for _, p := range pieces {
		wants, _ := Wants(r)
		next, l, e := Feed(r, p)
		if e != api.OK || Check(next) != api.OK {
			t.Fatalf("Feed(%v, %s) = %v, %d", r, short(p), next, e)
		}
		if len(l) > 0 && len(p) < wants {
			t.Fatalf("%d octets told a text, but %d were wanted", len(p), wants)
		}
		r = next
		texts = append(texts, l...)
	}
	return r, texts
}

// P3.4: every way to cut a short row of frames.
func TestEveryCut(t *testing.T) {
	for _, x := range []struct {
		texts [][]byte
		rest  []byte
		next  api.Reader
	}{
		{nil, nil, reader()},
		{[][]byte{nil}, nil, reader()},
		{[][]byte{[]byte("hi"), nil, []byte("hi")}, nil, reader()},
		{[][]byte{nil, nil, nil, nil, nil}, []byte{0}, reader(0)},
		{[][]byte{{0}, {0, 0}, {0, 1, 0}}, nil, reader()},
		{[][]byte{{1, 2, 3}, nil, {4}}, []byte{0, 3, 1, 2}, reader(0, 3, 1, 2)},
		{[][]byte{[]byte("hi"), {7}}, []byte{16, 1}, bad},
		{[][]byte{nil, {7}}, []byte{255, 255, 0, 1, 9, 0, 0}, bad},
		{[][]byte{{16, 1}, {255, 255, 255}}, []byte{16}, reader(16)},
	} {
		cuts(append(row(x.texts...), x.rest...), func(pieces [][]byte) {
			r, texts := feedAll(t, pieces)
			if !equal(r, x.next) || !equalTexts(texts, x.texts) {
				t.Fatalf("%v in pieces %v = %v, %v", x.texts, pieces, r, texts)
			}
		})
	}
}

// P3.4: great texts, in pieces of all kinds of sizes.
func TestPieces(t *testing.T) {
	texts := [][]byte{octets(4096), nil, octets(1), octets(255), octets(256), octets(257), nil, octets(4095), octets(4096), octets(2)}
	all := row(texts...)
	for _, size := range []int{1, 2, 3, 7, 255, 256, 257, 4095, 4096, 4097, 4098, 4099, len(all)} {
		pieces := slices.Collect(slices.Chunk(all, size))
		if r, l := feedAll(t, pieces); !equal(r, reader()) || !equalTexts(l, texts) {
			t.Errorf("in pieces of %d: %d texts came, %v", size, len(l), r)
		}
	}
	one := framed(octets(300))
	for at := range len(one) {
		r, l := feedAll(t, [][]byte{one[:at], nil, {}, one[at:]})
		if !equal(r, reader()) || !equalTexts(l, [][]byte{octets(300)}) {
			t.Errorf("cut at %d: %d texts came, %v", at, len(l), r)
		}
	}
}

// P3.4: what Put wrote is told, whatever stands behind.
func TestPutIsFed(t *testing.T) {
	for n := range api.MaxFrame + 1 {
		f, _ := Put(octets(n))
		wantFeed(t, reader(), f, reader(), [][]byte{octets(n)}, api.OK)
		wantFeed(t, reader(), append(f, 0, 9, 8), reader(0, 9, 8), [][]byte{octets(n)}, api.OK)
	}
}

// slowFeed reads octet by octet, with the words of the chapter alone.
func slowFeed(b []byte) (api.Reader, [][]byte) {
	var begun []byte
	var texts [][]byte
	for _, o := range b {
		begun = append(begun, o)
		if len(begun) < 2 {
			continue
		}
		n := int(begun[0])*256 + int(begun[1])
		if n > 4096 {
			return bad, texts
		}
		if len(begun) == 2+n {
			texts = append(texts, begun[2:])
			begun = nil
		}
	}
	return api.Reader{B: begun}, texts
}

// P3.2, P3.4: all texts over a few telling octets, cut at every place.
func TestFeedAgainstSlow(t *testing.T) {
	texts := [][]byte{nil}
	for range 7 {
		var longer [][]byte
		for _, b := range texts {
			for _, o := range []byte{0, 1, 2, 16, 17} {
				longer = append(longer, append(slices.Clone(b), o))
			}
		}
		for _, b := range longer {
			next, told := slowFeed(b)
			for cut := range len(b) + 1 {
				r, l := feedAll(t, [][]byte{b[:cut], b[cut:]})
				if !equal(r, next) || !equalTexts(l, told) {
					t.Fatalf("%v, cut at %d: %v, %v; want %v, %v", b, cut, r, l, next, told)
				}
			}
		}
		texts = longer
	}
}

// R2
func TestAskingChangesNothing(t *testing.T) {
	readers := wrong()
	for name, x := range good() {
		readers[name] = x.r
	}
	for name, r := range readers {
		for _, b := range [][]byte{nil, {5}, row([]byte("hi"), nil), {16, 1, 7}, octets(api.MaxText + 1)} {
			// Room behind the end is where putting octets together could write over what is not the call's own.
			room := append(bytes.Clone(r.B), octets(20)...)
			handed := api.Reader{B: room[:len(r.B)], Bad: r.Bad}
			piece := append(bytes.Clone(b), octets(20)...)
			keptRoom, keptPiece := bytes.Clone(room), bytes.Clone(piece)
			Check(handed)
			Wants(handed)
			Same(handed, r)
			Feed(handed, piece[:len(b)])
			Put(piece[:len(b)])
			if !bytes.Equal(room, keptRoom) || !bytes.Equal(piece, keptPiece) {
				t.Errorf("%s: what was handed in changed", name)
			}
		}
	}
}

// R2
func TestPutIsNew(t *testing.T) {
	for _, n := range []int{0, 1, 2, 256, 4096} {
		b := octets(n)
		f, _ := Put(b)
		wipe(b)
		if !bytes.Equal(f, framed(octets(n))) {
			t.Errorf("what Put told of %d octets changed", n)
		}
		b = octets(n)
		f, _ = Put(b)
		wipe(f)
		if g, _ := Put(b); !bytes.Equal(b, octets(n)) || !bytes.Equal(g, framed(octets(n))) {
			t.Errorf("writing into what Put told of %d octets changed something", n)
		}
	}
}

// feeds are readers with octets that tell texts, leave some, do neither, or are none.
var feeds = []struct {
	r api.Reader
	b []byte
}{
	{reader(), nil},
	{reader(0, 5, 1), nil},
	{reader(), []byte{0}},
	{reader(), []byte{0, 5, 1, 2}},
	{reader(0, 2, 'h'), []byte{'i'}},
	{reader(0, 2), []byte{'h', 'i', 0, 0, 0, 1, 7, 0, 3, 1, 2}},
	{reader(), []byte{0, 3, 1, 2, 3, 0, 1, 4, 0, 2, 5, 6, 0, 9}},
	{reader(), []byte{0, 1, 9, 16, 1}},
	{bad, []byte{0, 1, 9}},
}

// R2: what was handed in is written over behind the call.
func TestFeedKeepsNothing(t *testing.T) {
	for i, x := range feeds {
		want, texts := slowFeed(append(bytes.Clone(x.r.B), x.b...))
		if x.r.Bad {
			want, texts = bad, nil
		}
		r, b := cloneReader(x.r), bytes.Clone(x.b)
		next, l, _ := Feed(r, b)
		wipe(r.B)
		wipe(b)
		if !equal(next, want) || !equalTexts(l, texts) {
			t.Errorf("%d: what Feed told changed: %v, %v", i, next, l)
		}
	}
}

// R2: each list of an answer is written over, with what stands behind its end, and the others are held against a new answer.
func TestFeedIsNew(t *testing.T) {
	for i, x := range feeds {
		want, texts, _ := Feed(x.r, x.b)
		for k := range len(texts) + 1 {
			r, b := cloneReader(x.r), bytes.Clone(x.b)
			next, l, _ := Feed(r, b)
			if k < len(texts) {
				wipe(l[k])
				l[k] = texts[k]
			} else {
				wipe(next.B)
				next.B = want.B
			}
			if !equal(next, want) || !equalTexts(l, texts) {
				t.Errorf("%d: list %d shares octets with another", i, k)
			}
			if !equal(r, x.r) || !bytes.Equal(b, x.b) {
				t.Errorf("%d: list %d shares octets with what was handed in", i, k)
			}
			wantFeed(t, r, b, want, texts, api.OK)
		}
	}
}

// P3.4: what was told stays, while the reader goes on, also along two ways from one reader.
func TestToldStays(t *testing.T) {
	begun, first, _ := Feed(api.Reader{}, []byte{0, 2, 'h', 'i', 0, 3, 1})
	a, la, _ := Feed(begun, []byte{2, 3, 0, 4, 9})
	b, lb, _ := Feed(begun, []byte{7, 8, 16, 1})
	Feed(a, []byte{6, 6, 6, 0, 0})
	Feed(b, []byte{5})
	if !equal(begun, reader(0, 3, 1)) || !equalTexts(first, [][]byte{[]byte("hi")}) {
		t.Errorf("the first answer changed: %v, %v", begun, first)
	}
	if !equal(a, reader(0, 4, 9)) || !equalTexts(la, [][]byte{{1, 2, 3}}) {
		t.Errorf("the answer of one way changed: %v, %v", a, la)
	}
	if !equal(b, bad) || !equalTexts(lb, [][]byte{{1, 7, 8}}) {
		t.Errorf("the answer of the other way changed: %v, %v", b, lb)
	}
}

// FuzzFeed holds Feed, of any reader, against reading octet by octet.
func FuzzFeed(f *testing.F) {
	f.Add([]byte{}, false, []byte{0, 2, 'h', 'i'})
	f.Add([]byte{0, 2, 'h'}, false, []byte{'i', 16, 1})
	f.Add([]byte{}, true, []byte{0, 0})
	f.Add([]byte{0, 0}, false, []byte{0})
	f.Fuzz(func(t *testing.T, begun []byte, isBad bool, b []byte) {
		r := api.Reader{B: begun, Bad: isBad}
		next, texts := slowFeed(append(bytes.Clone(begun), b...))
		left, before := slowFeed(begun)
		switch {
		case isBad && len(begun) > 0, !isBad && (left.Bad || len(before) > 0):
			next, texts = api.Reader{}, nil
			wantFeed(t, r, b, next, texts, api.ErrArg)
			wantWants(t, r, 0, api.ErrArg)
		case len(b) > api.MaxText:
			wantFeed(t, r, b, api.Reader{}, nil, api.ErrLong)
		case isBad:
			wantFeed(t, r, b, bad, nil, api.OK)
		default:
			wantFeed(t, r, b, next, texts, api.OK)
		}
	})
}
