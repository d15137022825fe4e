package utf_test

import (
	"bytes"
	"math"
	"slices"
	"strings"
	"testing"
	"unicode/utf8"

	"frisket/api"
	"frisket/utf"
)

// known are scalars at the edges that the chapter names, with their bytes written out, so that the tests hang on no other coder.
var known = []struct {
	c int
	b string
}{
	{0, "\x00"},
	{0x41, "A"},
	{0x7F, "\x7f"},
	{0x80, "\xc2\x80"},
	{0x5D0, "\xd7\x90"},
	{0x7FF, "\xdf\xbf"},
	{0x800, "\xe0\xa0\x80"},
	{0x6587, "\xe6\x96\x87"},
	{0xD7FF, "\xed\x9f\xbf"},
	{0xE000, "\xee\x80\x80"},
	{0xFFFD, "\xef\xbf\xbd"},
	{0xFFFF, "\xef\xbf\xbf"},
	{0x10000, "\xf0\x90\x80\x80"},
	{0x1F600, "\xf0\x9f\x98\x80"},
	{0x10FFFF, "\xf4\x8f\xbf\xbf"},
}

// none are numbers that are no scalars.
var none = []int{-1, -0x41, 0xD800, 0xDABC, 0xDC00, 0xDFFF, 0x110000, 0x7FFFFFFF, 1 << 32, 1<<32 + 0x41, math.MaxInt, math.MinInt}

// wrong are bytes with which no scalar's begin.
var wrong = map[string]string{
	"begins none: first of those behind":   "\x80",
	"begins none: last of those behind":    "\xbf",
	"begins none: F8":                      "\xf8\x88\x80\x80\x80",
	"begins none: FE":                      "\xfe\x80\x80\x80",
	"begins none: FF":                      "\xff",
	"cut short: 1 of 2":                    "\xc2",
	"cut short: 1 of 3":                    "\xe6",
	"cut short: 2 of 3":                    "\xe6\x96",
	"cut short: 1 of 4":                    "\xf0",
	"cut short: 2 of 4":                    "\xf0\x9f",
	"cut short: 3 of 4":                    "\xf0\x9f\x98",
	"broken off by a letter: 1 of 2":       "\xc3a",
	"broken off by a letter: 2 of 3":       "\xe6\x96a",
	"broken off by a letter: 3 of 4":       "\xf0\x9f\x98a",
	"broken off by another one's first: 2": "\xc2\xc2\x80",
	"broken off by another one's first: 3": "\xe6\xc2\x80",
	"could be fewer: 0 in 2":               "\xc0\x80",
	"could be fewer: 7F in 2":              "\xc1\xbf",
	"could be fewer: 0 in 3":               "\xe0\x80\x80",
	"could be fewer: 7FF in 3":             "\xe0\x9f\xbf",
	"could be fewer: 0 in 4":               "\xf0\x80\x80\x80",
	"could be fewer: FFFF in 4":            "\xf0\x8f\xbf\xbf",
	"a half: D800":                         "\xed\xa0\x80",
	"a half: DFFF":                         "\xed\xbf\xbf",
	"two halves: D83D DE00":                "\xed\xa0\xbd\xed\xb8\x80",
	"too great: 110000":                    "\xf4\x90\x80\x80",
	"too great: 140000":                    "\xf5\x80\x80\x80",
	"too great: 1FFFFF, the greatest of 4": "\xf7\xbf\xbf\xbf",
}

// P1.1: numbers at the edges, and what is none.
func TestScalar(t *testing.T) {
	for _, k := range known {
		if !utf.Scalar(k.c) {
			t.Errorf("%x is one", k.c)
		}
	}
	for _, c := range none {
		if utf.Scalar(c) {
			t.Errorf("%x is none", c)
		}
	}
}

// P1.1: each known scalar by itself; what stands behind it changes nothing for Next.
func TestEncodeNextAndDecodeOfKnown(t *testing.T) {
	for _, k := range known {
		b, e := utf.Encode([]int{k.c})
		if string(b) != k.b || e != api.OK {
			t.Errorf("Encode of %x: %x, %v", k.c, b, e)
		}
		for _, behind := range []string{"", "x", "\x80", "\xff", "\xf0\x9f\x98\x80"} {
			c, n, e := utf.Next([]byte(k.b + behind))
			if c != k.c || n != len(k.b) || e != api.OK {
				t.Errorf("Next of %x: %x, %d, %v", k.b+behind, c, n, e)
			}
		}
		l, e := utf.Decode([]byte(k.b))
		if !slices.Equal(l, []int{k.c}) || e != api.OK {
			t.Errorf("Decode of %x: %x, %v", k.b, l, e)
		}
		if at, is := utf.Wrong([]byte(k.b)); at != 0 || is {
			t.Errorf("Wrong of %x: %d", k.b, at)
		}
	}
}

// P1.1, P1.2: texts of many scalars.
func TestManyScalarsOneBehindTheOther(t *testing.T) {
	var l []int
	var s string
	for i := range known {
		k := known[len(known)-1-i]
		l, s = append(l, k.c, k.c), s+k.b+k.b
		b, e := utf.Encode(l)
		if string(b) != s || e != api.OK {
			t.Errorf("Encode of %x: %x, %v", l, b, e)
		}
		back, e := utf.Decode([]byte(s))
		if !slices.Equal(back, l) || e != api.OK {
			t.Errorf("Decode of %x: %x, %v", s, back, e)
		}
		if at, is := utf.Wrong([]byte(s)); at != 0 || is {
			t.Errorf("Wrong of %x: %d", s, at)
		}
	}
}

// P1.1: one wrong number is enough, wherever it stands, and no bytes are answered beside the error.
func TestEncodeOfWhatIsNoScalar(t *testing.T) {
	for _, c := range none {
		for _, l := range [][]int{{c}, {0x41, c}, {c, 0x41}, {0x10FFFF, c, 0x5D0}} {
			if b, e := utf.Encode(l); len(b) != 0 || e != api.ErrUtf {
				t.Errorf("%x: %x, %v", l, b, e)
			}
		}
	}
}

// P1.1: one wrong place is enough, and Wrong tells the first.
func TestWrongBytes(t *testing.T) {
	for name, s := range wrong {
		if c, n, e := utf.Next([]byte(s)); c != 0 || n != 0 || e != api.ErrUtf {
			t.Errorf("%s: Next: %x, %d, %v", name, c, n, e)
		}
		wrongBehind(t, name, "", s)
		ahead := ""
		for _, k := range known {
			ahead += k.b
			wrongBehind(t, name, k.b, s)
			wrongBehind(t, name, ahead, s)
		}
	}
}

// wrongBehind looks at wrong bytes behind those of scalars, alone and with more that is wrong behind them.
func wrongBehind(t *testing.T, name, ahead, s string) {
	t.Helper()
	for _, behind := range []string{"", "a\xff\x80"} {
		b := []byte(ahead + s + behind)
		if l, e := utf.Decode(b); len(l) != 0 || e != api.ErrUtf {
			t.Errorf("%s: Decode of %x: %x, %v", name, b, l, e)
		}
		if at, is := utf.Wrong(b); at != len(ahead) || !is {
			t.Errorf("%s: Wrong of %x: %d, %v", name, b, at, is)
		}
	}
}

// P1.1: nothing is a text without scalars, but no scalar.
func TestNothing(t *testing.T) {
	for _, b := range [][]byte{nil, {}} {
		if c, n, e := utf.Next(b); c != 0 || n != 0 || e != api.ErrUtf {
			t.Errorf("Next: %x, %d, %v", c, n, e)
		}
		if l, e := utf.Decode(b); len(l) != 0 || e != api.OK {
			t.Errorf("Decode: %x, %v", l, e)
		}
		if at, is := utf.Wrong(b); at != 0 || is {
			t.Errorf("Wrong: %d, %v", at, is)
		}
	}
	for _, l := range [][]int{nil, {}} {
		if b, e := utf.Encode(l); len(b) != 0 || e != api.OK {
			t.Errorf("Encode: %x, %v", b, e)
		}
	}
}

// P1.2: TestEachScalarThereAndBack goes through all numbers, some beyond both ends too.
func TestEachScalarThereAndBack(t *testing.T) {
	for c := -0x100; c <= api.MaxScalar+0x100; c++ {
		is := c >= 0 && c <= 0x10FFFF && utf8.ValidRune(rune(c))
		if utf.Scalar(c) != is {
			t.Fatalf("Scalar of %x: %v", c, !is)
		}
		b, e := utf.Encode([]int{c})
		if !is {
			if len(b) != 0 || e != api.ErrUtf {
				t.Fatalf("Encode of %x: %x, %v", c, b, e)
			}
			continue
		}
		if string(b) != string(rune(c)) || e != api.OK {
			t.Fatalf("Encode of %x: %x, %v", c, b, e)
		}
		if l, e := utf.Decode(b); !slices.Equal(l, []int{c}) || e != api.OK {
			t.Fatalf("Decode of %x: %x, %v", b, l, e)
		}
	}
}

// edgeBytes are those at which what a byte means may change.
var edgeBytes = []byte("\x00A\x7f\x80\x8f\x90\x9f\xa0\xbf\xc0\xc1\xc2\xdf\xe0\xe1\xec\xed\xee\xef\xf0\xf1\xf3\xf4\xf5\xf7\xf8\xfb\xfc\xff")

// P1.1, P1.2, P1: TestShortTexts holds all texts of up to four edge bytes against the library's coder.
func TestShortTexts(t *testing.T) {
	var try func(b []byte)
	try = func(b []byte) {
		compare(t, b)
		if len(b) == 4 || t.Failed() {
			return
		}
		for _, x := range edgeBytes {
			try(append(b, x))
		}
	}
	try(make([]byte, 0, 4))
}

// P1.1, P1.2, P1: TestAllPairsOfBytes has each byte in the first place and in the second one.
func TestAllPairsOfBytes(t *testing.T) {
	for x := range 0x10000 {
		compare(t, []byte{byte(x >> 8), byte(x)})
		compare(t, []byte{0xE6, byte(x >> 8), byte(x)})
		compare(t, []byte{0xF0, 0x9F, byte(x >> 8), byte(x)})
		if t.Failed() {
			return
		}
	}
}

func compare(t *testing.T, b []byte) {
	t.Helper()
	compareNext(t, b)
	at, want := firstWrong(b)
	if got, is := utf.Wrong(b); got != at || is != want {
		t.Errorf("Wrong of %x: %d, %v", b, got, is)
	}
	l, e := utf.Decode(b)
	if want {
		if len(l) != 0 || e != api.ErrUtf {
			t.Errorf("Decode of %x: %x, %v", b, l, e)
		}
		return
	}
	back, back2 := utf.Encode(l)
	if e != api.OK || back2 != api.OK || !bytes.Equal(back, b) {
		t.Errorf("Decode of %x: %x, %v, and back: %x, %v", b, l, e, back, back2)
	}
	var runes []int
	for _, c := range string(b) {
		runes = append(runes, int(c))
	}
	if !slices.Equal(l, runes) {
		t.Errorf("Decode of %x: %x", b, l)
	}
}

func compareNext(t *testing.T, b []byte) {
	t.Helper()
	c, n, e := utf.Next(b)
	r, size := utf8.DecodeRune(b)
	if r == utf8.RuneError && size < 2 {
		if c != 0 || n != 0 || e != api.ErrUtf {
			t.Errorf("Next of %x: %x, %d, %v", b, c, n, e)
		}
	} else if c != int(r) || n != size || e != api.OK {
		t.Errorf("Next of %x: %x, %d, %v", b, c, n, e)
	}
}

func firstWrong(b []byte) (int, bool) {
	for at := 0; at < len(b); {
		r, size := utf8.DecodeRune(b[at:])
		if r == utf8.RuneError && size < 2 {
			return at, true
		}
		at += size
	}
	return 0, false
}

// P1.1, P1: TestLongTexts has what is wrong far behind the beginning.
func TestLongTexts(t *testing.T) {
	s := strings.Repeat("a\xd7\x90\xe6\x96\x87\xf0\x9f\x98\x80", 5000)
	l, e := utf.Decode([]byte(s))
	if len(l) != 20000 || e != api.OK {
		t.Errorf("Decode: %d scalars, %v", len(l), e)
	}
	if b, e := utf.Encode(l); string(b) != s || e != api.OK {
		t.Errorf("Encode: %d bytes, %v", len(b), e)
	}
	if l, e := utf.Decode([]byte(s + "\xff")); len(l) != 0 || e != api.ErrUtf {
		t.Errorf("Decode with FF behind: %d scalars, %v", len(l), e)
	}
	if at, is := utf.Wrong([]byte(s + "\xff")); at != len(s) || !is {
		t.Errorf("Wrong with FF behind: %d, %v", at, is)
	}
	if b, e := utf.Encode(append(l, 0xD800)); len(b) != 0 || e != api.ErrUtf {
		t.Errorf("Encode with D800 behind: %d bytes, %v", len(b), e)
	}
}

// P2: TestBehindTheLength has bytes behind a list's length that would make it right, or longer.
func TestBehindTheLength(t *testing.T) {
	whole := []byte("a\xe6\x96\x87b")
	for n := range len(whole) {
		b := whole[:n]
		at, want := firstWrong(bytes.Clone(b))
		if got, is := utf.Wrong(b); got != at || is != want {
			t.Errorf("Wrong of %x: %d, %v", b, got, is)
		}
	}
	if c, n, e := utf.Next(whole[1:3]); c != 0 || n != 0 || e != api.ErrUtf {
		t.Errorf("Next: %x, %d, %v", c, n, e)
	}
	if l, e := utf.Decode(whole[:3]); len(l) != 0 || e != api.ErrUtf {
		t.Errorf("Decode: %x, %v", l, e)
	}
	if string(whole) != "a\xe6\x96\x87b" {
		t.Errorf("the bytes were written into: %x", whole)
	}
	l := []int{0x41, 0xD800}
	if b, e := utf.Encode(l[:1]); string(b) != "A" || e != api.OK || l[1] != 0xD800 {
		t.Errorf("Encode: %x, %v, %x", b, e, l)
	}
}

// P2: TestByArgumentsAlone asks the same again, behind other calls, wrong ones too, and behind writing into the answers.
func TestByArgumentsAlone(t *testing.T) {
	l := []int{0x41, 0x5D0, 0x6587, 0x10FFFF}
	s := "A\xd7\x90\xe6\x96\x87\xf4\x8f\xbf\xbf"
	text := []byte(s)
	for range 3 {
		b, e := utf.Encode(l)
		if string(b) != s || e != api.OK {
			t.Errorf("Encode: %x, %v", b, e)
		}
		got, e := utf.Decode(text)
		if !slices.Equal(got, l) || e != api.OK {
			t.Errorf("Decode: %x, %v", got, e)
		}
		clear(b[:cap(b)])
		clear(got[:cap(got)])
		utf.Encode(none)
		utf.Next([]byte("\xff"))
		utf.Decode([]byte("A\xff"))
		utf.Wrong([]byte("AB\xff"))
		if string(text) != s || !slices.Equal(l, []int{0x41, 0x5D0, 0x6587, 0x10FFFF}) {
			t.Fatalf("what was handed in was written into: %x, %x", text, l)
		}
	}
}
