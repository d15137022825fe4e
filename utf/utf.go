// Package utf is layer 1: see shared/doc/01-utf.md.
package utf

import "frisket/api"

// Those from firstHalf up to lastHalf stand for halves of others elsewhere, so none of them is a scalar.
const (
	firstHalf = 0xD800
	lastHalf  = 0xDFFF
)

// A byte behind the first one has six bits, beside these.
const (
	tail     = 0x80
	tailBits = 6
	tailMask = 1<<tailBits - 1
)

// length is what the scalars of one number of bytes share.
type length struct {
	least   int // the least of these scalars
	head    int // what stands in the first byte, beside the scalar's bits
	topHead int // the greatest first byte
}

// lengths tells of one byte, of two, of three and of four.
var lengths = [4]length{
	{0, 0x00, 0x7F},
	{0x80, 0xC0, 0xDF},
	{0x800, 0xE0, 0xEF},
	{0x10000, 0xF0, 0xF7},
}

// Scalar tells whether a number is one.
func Scalar(c int) bool {
	return c >= 0 && c <= api.MaxScalar && (c < firstHalf || c > lastHalf)
}

// Encode is scalars' bytes.
func Encode(l []int) ([]byte, api.Errno) {
	var b []byte
	for _, c := range l {
		if !Scalar(c) {
			return nil, api.ErrUtf
		}
		b = appendScalar(b, c)
	}
	return b, api.OK
}

// Next is the first scalar of bytes.
func Next(b []byte) (c, n int, e api.Errno) {
	defer func() {
		if recover() != nil {
			c, n, e = 0, 0, api.ErrUtf
		}
	}()
	c, n = first(b)
	return c, n, api.OK
}

// Decode is the scalars of bytes.
func Decode(b []byte) (l []int, e api.Errno) {
	defer func() {
		if recover() != nil {
			l, e = nil, api.ErrUtf
		}
	}()
	for at := 0; at < len(b); {
		c, n := first(b[at:])
		l = append(l, c)
		at += n
	}
	return l, api.OK
}

// Wrong is the first place that is wrong.
func Wrong(b []byte) (int, bool) {
	for at := 0; at < len(b); {
		_, n, e := Next(b[at:])
		if e != api.OK {
			return at, true
		}
		at += n
	}
	return 0, false
}

// appendScalar puts a scalar's bytes behind others.
func appendScalar(b []byte, c int) []byte {
	n := count(c)
	shift := tailBits * (n - 1)
	b = append(b, byte(lengths[n-1].head+c>>shift))
	for shift > 0 {
		shift -= tailBits
		b = append(b, byte(tail+c>>shift&tailMask))
	}
	return b
}

// count is how many bytes a scalar has.
func count(c int) int {
	n := 0
	for _, x := range lengths {
		if c >= x.least {
			n++
		}
	}
	return n
}

// asked is how many bytes the first one asks for; 0, if it is no first one.
func asked(head int) int {
	for i, x := range lengths {
		if head >= x.head && head <= x.topHead {
			return i + 1
		}
	}
	return 0
}

// first is the scalar with whose bytes b begins, and how many they are. If there is none, it panics: one that is wrong ends the reading of the whole text.
func first(b []byte) (int, int) {
	if len(b) == 0 {
		panic(api.ErrUtf)
	}
	head := int(b[0])
	n := asked(head)
	if n == 0 || n > len(b) {
		panic(api.ErrUtf)
	}
	c := head - lengths[n-1].head
	for _, x := range b[1:n] {
		c = c<<tailBits + six(int(x))
	}
	// Bytes that could be fewer are refused, so that each scalar has its bytes one way only.
	if !Scalar(c) || count(c) != n {
		panic(api.ErrUtf)
	}
	return c, n
}

// six is the bits of a byte behind the first one; it panics, if that may not stand there.
func six(x int) int {
	if x < tail || x > tail+tailMask {
		panic(api.ErrUtf)
	}
	return x - tail
}
