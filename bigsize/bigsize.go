// Package bigsize is layer 1: see shared/doc/01-bigsize.md.
package bigsize

import "damson/api"

// The first octets of numbers that stand in two, four and eight octets behind them.
const (
	firstOfTwo = 253 + iota
	firstOfFour
	firstOfEight
)

// Put writes numbers, Size is how many octets one has, Get reads one, All reads all.
func Put(l ...uint64) []byte {
	var b []byte
	for _, n := range l {
		b = appendNumber(b, n)
	}
	return b
}

func Size(n uint64) int { return 1 + behind(first(n)) }

func Get(b []byte) (uint64, int, api.Errno) {
	if len(b) == 0 || len(b) <= behind(b[0]) {
		return 0, 0, api.ErrShort
	}
	n := read(b)
	// A number has one first octet only, so another one tells that n could be written with fewer.
	if first(n) != b[0] {
		return 0, 0, api.ErrForm
	}
	return n, Size(n), api.OK
}

func All(b []byte) ([]uint64, api.Errno) {
	if len(b) > api.MaxText {
		return nil, api.ErrLong
	}
	var l []uint64
	for len(b) > 0 {
		n, size, e := Get(b)
		if e != api.OK {
			return nil, e
		}
		l = append(l, n)
		b = b[size:]
	}
	return l, api.OK
}

// first is the octet with which n begins.
func first(n uint64) byte {
	switch {
	case n < firstOfTwo:
		return byte(n)
	case n < 1<<16:
		return firstOfTwo
	case n < 1<<32:
		return firstOfFour
	}
	return firstOfEight
}

// behind is how many octets stand behind a first one.
func behind(f byte) int {
	switch f {
	case firstOfTwo:
		return 2
	case firstOfFour:
		return 4
	case firstOfEight:
		return 8
	}
	return 0
}

func appendNumber(b []byte, n uint64) []byte {
	f := first(n)
	b = append(b, f)
	k := behind(f)
	for i := range k {
		b = append(b, byte(n>>(8*(k-1-i))))
	}
	return b
}

// read takes all octets of a number to be there; that they are the fewest is for the caller to ask.
func read(b []byte) uint64 {
	k := behind(b[0])
	if k == 0 {
		return uint64(b[0])
	}
	var n uint64
	for i := range k {
		n = n<<8 | uint64(b[1+i])
	}
	return n
}
