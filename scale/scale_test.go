package scale_test

import (
	"math"
	"math/big"
	"slices"
	"testing"

	"frisket/api"
	"frisket/scale"
)

// The parts of a number's bits.
const (
	sign      = 1 << 63
	exponents = 0x7FF << 52
	fractions = 1<<52 - 1
)

// row is numbers at the edges that the chapter names, in order, with their sorts; those of one line are as one.
var row = []struct {
	sort int
	bits []uint64
}{
	{0, []uint64{0x7FF8000000000000, 0x7FF8000000000001, 0xFFF8000000000000, 0x7FF0000000000001, 0xFFF0000000000001, 0x7FFFFFFFFFFFFFFF, 0xFFFFFFFFFFFFFFFF, 0x7FF7FFFFFFFFFFFF, 0xFFF4000000000000}},
	{1, []uint64{0xFFF0000000000000}},
	{2, []uint64{0xFFEFFFFFFFFFFFFF}}, // the least
	{2, []uint64{0xC340000000000001}}, // -2^53 - 2
	{2, []uint64{0xC340000000000000}}, // -2^53
	{2, []uint64{0xC33FFFFFFFFFFFFF}}, // -2^53 + 1
	{2, []uint64{0xC050000000000001}}, // just below -64
	{2, []uint64{0xC050000000000000}}, // -64
	{2, []uint64{0xC04FFFFFFFFFFFFF}}, // just above -64
	{2, []uint64{0xC000000000000000}}, // -2
	{2, []uint64{0xBFF0000000000001}}, // just below -1
	{2, []uint64{0xBFF0000000000000}}, // -1
	{2, []uint64{0xBFEFFFFFFFFFFFFF}}, // just above -1
	{2, []uint64{0xBFE0000000000000}}, // a half, below nought
	{2, []uint64{0x8010000000000001}},
	{2, []uint64{0x8010000000000000}}, // e is 1
	{2, []uint64{0x800FFFFFFFFFFFFF}}, // the least with e = 0
	{2, []uint64{0x8000000000000002}},
	{2, []uint64{0x8000000000000001}}, // just below nought
	{3, []uint64{0x8000000000000000}},
	{4, []uint64{0x0000000000000000}},
	{5, []uint64{0x0000000000000001}}, // just above nought
	{5, []uint64{0x0000000000000002}},
	{5, []uint64{0x000FFFFFFFFFFFFF}}, // the greatest with e = 0
	{5, []uint64{0x0010000000000000}}, // e is 1
	{5, []uint64{0x0010000000000001}},
	{5, []uint64{0x3FE0000000000000}}, // a half
	{5, []uint64{0x3FEFFFFFFFFFFFFF}}, // just below 1
	{5, []uint64{0x3FF0000000000000}}, // 1
	{5, []uint64{0x3FF0000000000001}}, // just above 1
	{5, []uint64{0x3FFFFFFFFFFFFFFF}}, // just below 2
	{5, []uint64{0x4000000000000000}}, // 2
	{5, []uint64{0x4000000000000001}}, // just above 2
	{5, []uint64{0x4004000000000000}}, // 2 and a half
	{5, []uint64{0x404F7FFFFFFFFFFF}}, // just below 63
	{5, []uint64{0x404F800000000000}}, // 63
	{5, []uint64{0x404F800000000001}}, // just above 63
	{5, []uint64{0x404FFFFFFFFFFFFF}}, // just below 64
	{5, []uint64{0x4050000000000000}}, // 64
	{5, []uint64{0x4050000000000001}}, // just above 64
	{5, []uint64{0x4050400000000000}}, // 65
	{5, []uint64{0x41DFFFFFFFC00000}}, // 2^31 - 1
	{5, []uint64{0x41E0000000000000}}, // 2^31
	{5, []uint64{0x41F0000000000000}}, // 2^32
	{5, []uint64{0x433FFFFFFFFFFFFF}}, // 2^53 - 1
	{5, []uint64{0x4340000000000000}}, // 2^53
	{5, []uint64{0x4340000000000001}}, // 2^53 + 2
	{5, []uint64{0x43E0000000000000}}, // 2^63
	{5, []uint64{0x43F0000000000000}}, // 2^64
	{5, []uint64{0x43F0000000000001}}, // 2^64 and 4096
	{5, []uint64{0x7FEFFFFFFFFFFFFF}}, // the greatest
	{6, []uint64{0x7FF0000000000000}},
}

// flat is all numbers of the row.
func flat() []uint64 {
	var l []uint64
	for _, r := range row {
		l = append(l, r.bits...)
	}
	return l
}

// sortOf says a number's by the words of the chapter, from its bits.
func sortOf(x uint64) int {
	minus, e, f := x&sign != 0, x&exponents>>52, x&fractions
	switch {
	case e == 2047 && f != 0:
		return 0
	case e == 2047 && minus:
		return 1
	case e == 2047:
		return 6
	case e == 0 && f == 0 && minus:
		return 3
	case e == 0 && f == 0:
		return 4
	case minus:
		return 2
	}
	return 5
}

// valueOf says a number's by the words of the chapter, from its bits.
func valueOf(x uint64) *big.Rat {
	e, f := int(x&exponents>>52), int64(x&fractions)
	power := -1074
	if e != 0 {
		f += 1 << 52
		power = e - 1075
	}
	if x&sign != 0 {
		f = -f
	}
	v := new(big.Rat).SetInt64(f)
	two := new(big.Rat).SetInt(new(big.Int).Lsh(big.NewInt(1), uint(max(power, -power))))
	if power < 0 {
		return v.Quo(v, two)
	}
	return v.Mul(v, two)
}

// orderOf says which one is ahead by sorts and values.
func orderOf(x, y uint64) int {
	sx, sy := sortOf(x), sortOf(y)
	switch {
	case sx < sy:
		return -1
	case sx > sy:
		return 1
	case sx == 2 || sx == 5:
		return valueOf(x).Cmp(valueOf(y))
	}
	return 0
}

// cellsOf says how many a number is by trying whole numbers.
func cellsOf(x uint64) (int, api.Errno) {
	if s := sortOf(x); s < 3 || s == 6 {
		return 0, api.ErrScale
	}
	v := valueOf(x)
	for n := range 65 {
		if new(big.Rat).SetInt64(int64(n)).Cmp(v) >= 0 {
			return n, api.OK
		}
	}
	return 0, api.ErrScale
}

// sumOf adds what cellsOf says.
func sumOf(l []uint64) (int, api.Errno) {
	sum := 0
	for _, x := range l {
		n, e := cellsOf(x)
		if e != api.OK {
			return 0, e
		}
		sum += n
	}
	return sum, api.OK
}

// sortedOf puts each number behind all that are not behind it.
func sortedOf(l []uint64) []uint64 {
	var s []uint64
	for _, x := range l {
		at := len(s)
		for at > 0 && orderOf(s[at-1], x) > 0 {
			at--
		}
		s = slices.Insert(s, at, x)
	}
	return s
}

// many is numbers with each exponent, with and without the sign, and with fractions at their edges and elsewhere.
func many() []uint64 {
	var l []uint64
	other := uint64(1)
	for e := range uint64(2048) {
		other = other*6364136223846793005 + 1442695040888963407
		for _, f := range []uint64{0, 1, 1 << 51, fractions, other & fractions} {
			l = append(l, e<<52|f, sign|e<<52|f)
		}
	}
	return l
}

// about is numbers from below nought to above MaxCells: whole ones, those just beside them, and between.
func about() []uint64 {
	var l []uint64
	for n := -3.0; n <= 70; n++ {
		for _, x := range []float64{n, math.Nextafter(n, math.Inf(-1)), math.Nextafter(n, math.Inf(1)), n + 0.25, n + 0.5, n + 0.75} {
			l = append(l, math.Float64bits(x))
		}
	}
	return l
}

// P4.1: the sorts of the row.
func TestSort(t *testing.T) {
	for _, r := range row {
		for _, x := range r.bits {
			if s := scale.Sort(x); s != r.sort {
				t.Errorf("Sort of %x: %d, want %d", x, s, r.sort)
			}
		}
	}
}

// P4.1: the sorts of numbers with each exponent.
func TestSortOfMany(t *testing.T) {
	for _, x := range slices.Concat(many(), about()) {
		if s, want := scale.Sort(x), sortOf(x); s != want {
			t.Errorf("Sort of %x: %d, want %d", x, s, want)
		}
	}
}

// P4.1: each bit of a fraction by itself makes a number none, if e is 2047, and no nought, if e is 0.
func TestSortOfEachBit(t *testing.T) {
	for i := range 52 {
		f := uint64(1) << i
		for x, want := range map[uint64]int{exponents | f: 0, sign | exponents | f: 0, f: 5, sign | f: 2} {
			if s := scale.Sort(x); s != want {
				t.Errorf("Sort of %x: %d, want %d", x, s, want)
			}
		}
	}
}

// P4.1, P4.2: of any two of the row, which one is ahead.
func TestOrder(t *testing.T) {
	for i, r := range row {
		for j, q := range row {
			want := 0
			if i < j {
				want = -1
			} else if i > j {
				want = 1
			}
			for _, x := range r.bits {
				for _, y := range q.bits {
					if o := scale.Order(x, y); o != want {
						t.Errorf("Order of %x, %x: %d, want %d", x, y, o, want)
					}
				}
			}
		}
	}
}

// P4.1: Order of numbers with each exponent, by their sorts and values.
func TestOrderOfMany(t *testing.T) {
	l := many()
	for i, x := range l {
		for _, y := range []uint64{x, x ^ sign, x ^ 1, x + 1, x - 1, l[(i+1)%len(l)], l[(i*7+3)%len(l)]} {
			if o, want := scale.Order(x, y), orderOf(x, y); o != want {
				t.Errorf("Order of %x, %x: %d, want %d", x, y, o, want)
			}
		}
	}
}

// P4.2: of any two one is ahead, or they are as one, whichever is asked first; who is ahead of one, or as it, is so of all that are behind it, or as it.
func TestOneRow(t *testing.T) {
	l := append(flat(), about()[:60]...)
	for _, x := range l {
		if o := scale.Order(x, x); o != 0 {
			t.Errorf("Order of %x and itself: %d", x, o)
		}
		for _, y := range l {
			o := scale.Order(x, y)
			if o < -1 || o > 1 || scale.Order(y, x) != -o {
				t.Fatalf("Order of %x, %x: %d, and %d", x, y, o, scale.Order(y, x))
			}
			if o > 0 {
				continue
			}
			for _, z := range l {
				p := scale.Order(y, z)
				if p > 0 {
					continue
				}
				if q := scale.Order(x, z); q != min(o, p) {
					t.Fatalf("Order of %x, %x: %d; of %x, %x: %d; of %x, %x: %d", x, y, o, y, z, p, x, z, q)
				}
			}
		}
	}
}

// oneCells holds a number's against what is wanted.
func oneCells(t *testing.T, x uint64, want int, wantE api.Errno) {
	t.Helper()
	if n, e := scale.Cells(x); n != want || e != wantE {
		t.Errorf("Cells of %x: %d, %v, want %d, %v", x, n, e, want, wantE)
	}
}

// P4.1: the cells of numbers written out, right and wrong ones.
func TestCells(t *testing.T) {
	for x, want := range map[uint64]int{
		0x8000000000000000: 0,
		0x0000000000000000: 0,
		0x0000000000000001: 1,
		0x000FFFFFFFFFFFFF: 1,
		0x0010000000000000: 1,
		0x3FE0000000000000: 1,
		0x3FEFFFFFFFFFFFFF: 1,
		0x3FF0000000000000: 1,
		0x3FF0000000000001: 2,
		0x4004000000000000: 3, // 2 and a half
		0x404F7FFFFFFFFFFF: 63,
		0x404F800000000000: 63,
		0x404F800000000001: 64,
		0x404FFFFFFFFFFFFF: 64,
		0x4050000000000000: 64,
	} {
		oneCells(t, x, want, api.OK)
	}
	for _, r := range row {
		for _, x := range r.bits {
			if r.sort < 3 || r.sort == 6 || x > 0x4050000000000000 && x < sign {
				oneCells(t, x, 0, api.ErrScale)
			}
		}
	}
}

// P4.1: the cells of numbers with each exponent, and of whole ones and those beside them.
func TestCellsOfMany(t *testing.T) {
	for _, x := range slices.Concat(many(), about(), flat()) {
		n, e := cellsOf(x)
		oneCells(t, x, n, e)
	}
}

// P4.3: just below, at and above each whole number; its own cells are as many as it is.
func TestCellsAtWholeNumbers(t *testing.T) {
	for n := 1; n <= api.MaxCells; n++ {
		x, e := scale.Of(n)
		if e != api.OK {
			t.Fatalf("Of(%d): %v", n, e)
		}
		oneCells(t, x-1, n, api.OK)
		oneCells(t, x, n, api.OK)
		if n < api.MaxCells {
			oneCells(t, x+1, n+1, api.OK)
		} else {
			oneCells(t, x+1, 0, api.ErrScale)
		}
	}
	for _, n := range []int{-1 << 53, -65, -64, -2, -1, 65, 66, 128, 1 << 31, 1 << 32, 1<<32 + 1, 1 << 53} {
		x, e := scale.Of(n)
		if e != api.OK {
			t.Fatalf("Of(%d): %v", n, e)
		}
		oneCells(t, x, 0, api.ErrScale)
	}
	x, _ := scale.Of(0)
	oneCells(t, x, 0, api.OK)
	oneCells(t, x+1, 1, api.OK)
	oneCells(t, sign|x, 0, api.OK)
	oneCells(t, sign|x+1, 0, api.ErrScale)
}

// P4.3: as numbers rise, Cells never falls; each is enough, and one fewer would not be.
func TestCellsNeverTooFew(t *testing.T) {
	l := slices.Concat(many(), about(), flat())
	ahead, told := 0, 0
	for _, x := range scale.Sorted(l) {
		n, e := scale.Cells(x)
		if e != api.OK {
			continue
		}
		if n < ahead {
			t.Errorf("Cells of %x: %d, behind %d", x, n, ahead)
		}
		v := math.Float64frombits(x)
		if float64(n) < v || float64(n-1) >= v {
			t.Errorf("Cells of %v: %d", v, n)
		}
		ahead = n
		told++
	}
	if told < 1000 || ahead != api.MaxCells {
		t.Errorf("%d numbers take cells, the last one %d", told, ahead)
	}
}

// P4.1: the bits of whole numbers written out.
func TestOf(t *testing.T) {
	for n, want := range map[int]uint64{
		0:            0,
		1:            0x3FF0000000000000,
		-1:           0xBFF0000000000000,
		2:            0x4000000000000000,
		3:            0x4008000000000000,
		-7:           0xC01C000000000000,
		64:           0x4050000000000000,
		65:           0x4050400000000000,
		1<<31 - 1:    0x41DFFFFFFFC00000,
		-1 << 31:     0xC1E0000000000000,
		1<<53 - 1:    0x433FFFFFFFFFFFFF,
		-(1<<53 - 1): 0xC33FFFFFFFFFFFFF,
		1 << 53:      0x4340000000000000,
		-1 << 53:     0xC340000000000000,
	} {
		if x, e := scale.Of(n); x != want || e != api.OK {
			t.Errorf("Of(%d): %x, %v, want %x", n, x, e, want)
		}
	}
	for _, n := range []int{1<<53 + 1, -1<<53 - 1, 1<<53 + 2, -1<<53 - 2, 1 << 54, -1 << 54, 1 << 62, math.MaxInt, math.MinInt, math.MinInt + 1} {
		if x, e := scale.Of(n); x != 0 || e != api.ErrScale {
			t.Errorf("Of(%d): %x, %v", n, x, e)
		}
	}
}

// P4.1: the bits of whole numbers about each power of two have their values, and rise with them.
func TestOfHasTheValue(t *testing.T) {
	var l []int
	for n := -200; n <= 200; n++ {
		l = append(l, n)
	}
	for i := 8; i <= 53; i++ {
		for d := -3; d <= 3; d++ {
			l = append(l, 1<<i+d, -(1<<i + d), 1<<i-1<<(i/2)+d)
		}
	}
	for _, n := range l {
		x, e := scale.Of(n)
		if n < -1<<53 || n > 1<<53 {
			if x != 0 || e != api.ErrScale {
				t.Errorf("Of(%d): %x, %v", n, x, e)
			}
			continue
		}
		if e != api.OK || valueOf(x).Cmp(new(big.Rat).SetInt64(int64(n))) != 0 {
			t.Errorf("Of(%d): %x, %v", n, x, e)
		}
		if y, e := scale.Of(n - 1); e == api.OK && scale.Order(y, x) != -1 {
			t.Errorf("Of(%d): %x, of the one ahead: %x", n, x, y)
		}
	}
}

// oneSum holds a list's against what is wanted.
func oneSum(t *testing.T, l []uint64, want int, wantE api.Errno) {
	t.Helper()
	if n, e := scale.Sum(l); n != want || e != wantE {
		t.Errorf("Sum of %x: %d, %v, want %d, %v", l, n, e, want, wantE)
	}
}

// P4.1: the cells are added, not the numbers; nothing is 0.
func TestSum(t *testing.T) {
	half, one, most := math.Float64bits(0.5), math.Float64bits(1), math.Float64bits(64)
	oneSum(t, nil, 0, api.OK)
	oneSum(t, []uint64{}, 0, api.OK)
	oneSum(t, []uint64{0}, 0, api.OK)
	oneSum(t, []uint64{sign, 0, sign}, 0, api.OK)
	oneSum(t, []uint64{half}, 1, api.OK)
	oneSum(t, []uint64{half, half, half}, 3, api.OK)
	oneSum(t, []uint64{1, one, one + 1, sign}, 4, api.OK)
	oneSum(t, []uint64{most}, 64, api.OK)
	oneSum(t, []uint64{most, one}, 65, api.OK)
	oneSum(t, []uint64{most - 1, most, 1}, 129, api.OK)
	oneSum(t, slices.Repeat([]uint64{most, half}, 100000), 6500000, api.OK)
}

// P4.1: one number that has no cells, at each place of a list, is an error, and there is no sum.
func TestSumOfWrongOnes(t *testing.T) {
	right := []uint64{math.Float64bits(1), 0, math.Float64bits(2.5), sign, math.Float64bits(64)}
	oneSum(t, right, 68, api.OK)
	for _, x := range append(flat(), math.Float64bits(64.5), math.Float64bits(65), math.Float64bits(-0.5)) {
		if _, e := cellsOf(x); e == api.OK {
			continue
		}
		oneSum(t, []uint64{x}, 0, api.ErrScale)
		oneSum(t, []uint64{x, x}, 0, api.ErrScale)
		for at := range len(right) + 1 {
			oneSum(t, slices.Insert(slices.Clone(right), at, x), 0, api.ErrScale)
			oneSum(t, append(slices.Insert(slices.Clone(right), at, x), math.Float64bits(-3)), 0, api.ErrScale)
		}
	}
}

// oneSorted holds a list's against what is wanted.
func oneSorted(t *testing.T, l, want []uint64) {
	t.Helper()
	if s := scale.Sorted(l); !slices.Equal(s, want) {
		t.Errorf("Sorted of %x: %x, want %x", l, s, want)
	}
}

// P4.1: lists written out; those that are no numbers keep their places among one another, and their bits.
func TestSorted(t *testing.T) {
	const nan, other, below, least, greatest = 0x7FF8000000000000, 0xFFF0000000000001, 0xC000000000000000, 0xFFF0000000000000, 0x7FF0000000000000
	oneSorted(t, nil, nil)
	oneSorted(t, []uint64{}, nil)
	oneSorted(t, []uint64{nan}, []uint64{nan})
	oneSorted(t, []uint64{nan, other}, []uint64{nan, other})
	oneSorted(t, []uint64{other, nan}, []uint64{other, nan})
	oneSorted(t, []uint64{0, sign}, []uint64{sign, 0})
	oneSorted(t, []uint64{0, sign, 0, sign}, []uint64{sign, sign, 0, 0})
	oneSorted(t, []uint64{greatest, 1, other, 0, below, sign, nan, least, other}, []uint64{other, nan, other, least, below, sign, 0, 1, greatest})
	l := flat()
	oneSorted(t, l, l)
	slices.Reverse(l)
	want := flat()
	slices.Reverse(want[:len(row[0].bits)])
	oneSorted(t, l, want)
}

// P4.1: all lists of up to five of some numbers, three of which are as one.
func TestShortListsSorted(t *testing.T) {
	some := []uint64{0x7FF8000000000000, 0, 0xFFF0000000000001, sign, 0x7FF0000000000000, 0xBFF0000000000000, 0x7FF8000000000001, 1}
	var try func(l []uint64, n int)
	try = func(l []uint64, n int) {
		oneSorted(t, l, sortedOf(l))
		if n == 0 || t.Failed() {
			return
		}
		for _, x := range some {
			try(append(slices.Clone(l), x), n-1)
		}
	}
	try(nil, 5)
}

// P4.1: long lists with many that are as one, which stay as they were.
func TestLongListsSorted(t *testing.T) {
	rest := flat()
	for _, n := range []int{12, 13, 19, 20, 21, 40, 41, 100, 500, 2000} {
		var l []uint64
		for i := range n {
			if i%3 != 0 {
				l = append(l, rest[i*37%len(rest)])
				continue
			}
			// Each of these has a fraction of its own, so that its place among the others is seen.
			l = append(l, uint64(i*7919%2)<<63|exponents|uint64(n-i))
		}
		oneSorted(t, l, sortedOf(l))
	}
}

// P4.2: what is sorted is one row: none is ahead of one that stands ahead of it, near or far.
func TestSortedIsOneRow(t *testing.T) {
	s := scale.Sorted(slices.Concat(about(), flat(), many()[:400]))
	for i, x := range s {
		for _, y := range s[i:] {
			if scale.Order(x, y) > 0 {
				t.Fatalf("%x stands ahead of %x", x, y)
			}
		}
	}
	if again := scale.Sorted(s); !slices.Equal(again, s) {
		t.Error("what is sorted changes, if it is sorted again")
	}
}

// P1: long lists, in order, the other way round, and all as one.
func TestLongLists(t *testing.T) {
	const n = 1 << 17
	up, down, same := make([]uint64, n), make([]uint64, n), make([]uint64, n)
	for i := range n {
		up[i], down[n-1-i], same[i] = uint64(i), uint64(i), exponents|uint64(n-i)
	}
	for _, k := range []struct{ l, want []uint64 }{{up, up}, {down, up}, {same, same}} {
		if s := scale.Sorted(k.l); !slices.Equal(s, k.want) {
			t.Errorf("Sorted of %x ..: %x ..", k.l[:4], s[:4])
		}
	}
	if n, e := scale.Sum(up); n != 1<<17-1 || e != api.OK {
		t.Errorf("Sum: %d, %v", n, e)
	}
	if n, e := scale.Sum(same); n != 0 || e != api.ErrScale {
		t.Errorf("Sum: %d, %v", n, e)
	}
}

// P2: what is handed in is not written into, and what lies behind its length is neither read nor written.
func TestBehindTheLength(t *testing.T) {
	whole := []uint64{math.Float64bits(3), math.Float64bits(2), 1, 0, sign, 0xFFF0000000000000, 0x7FF8000000000000}
	kept := slices.Clone(whole)
	for n := range len(whole) + 1 {
		sum, e := scale.Sum(whole[:n])
		if want, wantE := sumOf(kept[:n]); sum != want || e != wantE {
			t.Errorf("Sum of the first %d: %d, %v, want %d, %v", n, sum, e, want, wantE)
		}
		if s := scale.Sorted(whole[:n]); !slices.Equal(s, sortedOf(kept[:n])) {
			t.Errorf("Sorted of the first %d: %x", n, s)
		}
		if !slices.Equal(whole, kept) {
			t.Fatalf("what was handed in was written into: %x", whole)
		}
	}
}

// P2: what is answered shares no memory with what was handed in, nor with another answer, to its very end.
func TestNewMemory(t *testing.T) {
	for n := range 40 {
		whole := make([]uint64, n+3)
		for i := range whole {
			whole[i] = math.Float64bits(float64(i))
		}
		kept := slices.Clone(whole)
		one, two := scale.Sorted(whole[:n]), scale.Sorted(whole[:n])
		clear(one[:cap(one)])
		_ = append(one, 7, 7, 7)
		if !slices.Equal(whole, kept) || !slices.Equal(two, kept[:n]) {
			t.Fatalf("writing into one answer changed %x, or %x", whole, two)
		}
		clear(whole)
		if !slices.Equal(two, kept[:n]) {
			t.Fatalf("writing into what was handed in changed %x", two)
		}
	}
}

// P2: the same is answered again, behind other calls, wrong ones too.
func TestByArgumentsAlone(t *testing.T) {
	l := []uint64{math.Float64bits(2.5), 0, sign, math.Float64bits(1)}
	for range 3 {
		oneSum(t, l, 4, api.OK)
		oneSorted(t, l, []uint64{sign, 0, l[3], l[0]})
		oneCells(t, l[0], 3, api.OK)
		if x, e := scale.Of(3); x != 0x4008000000000000 || e != api.OK {
			t.Errorf("Of(3): %x, %v", x, e)
		}
		if s, o := scale.Sort(sign), scale.Order(sign, 0); s != 3 || o != -1 {
			t.Errorf("Sort: %d, Order: %d", s, o)
		}
		clear(scale.Sorted(l))
		scale.Sum([]uint64{l[0], exponents})
		scale.Cells(exponents + 1)
		scale.Of(math.MaxInt)
		scale.Order(exponents+1, sign|exponents)
	}
}
