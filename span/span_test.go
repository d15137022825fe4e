package span_test

import (
	"fmt"
	"math"
	"slices"
	"strings"
	"testing"

	"frisket/api"
	"frisket/span"
)

// Bits of numbers.
const (
	half  = 0x3FE0000000000000
	one   = 0x3FF0000000000000
	two   = 0x4000000000000000
	most  = 0x4050000000000000 // 64
	minus = 1 << 63
)

// far is numbers that are far from a text's.
var far = []int{math.MinInt, math.MinInt + 1, -1 << 32, -41, -2, -1, 1 << 20, 1 << 31, 1 << 32, math.MaxInt - 1, math.MaxInt}

// looks is styles of all kinds, the plain one first.
var looks = []api.Span{{}, {Policy: api.AllUp}, {Policy: api.AllSide, Scale: half}, {Combine: true}, {Ruby: "ab"}}

// put is a style on a stretch.
func put(s api.Span, from, to int) api.Span {
	s.From, s.To = from, to
	return s
}

// each hands out all right lists for a text, of some styles: with no span for a scalar, or one of so many scalars.
func each(of []api.Span, n int, do func([]api.Span)) {
	var grow func(l []api.Span, at int)
	grow = func(l []api.Span, at int) {
		if at == n {
			do(slices.Clone(l))
			return
		}
		grow(l, at+1)
		for _, s := range of {
			for to := at + 1; to <= n && (!s.Combine || to-at <= 4); to++ {
				grow(append(l, put(s, at, to)), to)
			}
		}
	}
	grow(make([]api.Span, 0, n), 0)
}

// written is spans, as text.
func written(l []api.Span) string {
	return fmt.Sprintf("%+v", l)
}

// owners is a text's scalars, by the place of their spans in the list; -1, if they have none.
func owners(l []api.Span, n int) []int {
	of := slices.Repeat([]int{-1}, n)
	for k, s := range l {
		for i := s.From; i < s.To; i++ {
			of[i] = k
		}
	}
	return of
}

// gathered is the spans of a text's scalars: the styles are those of the list.
func gathered(l []api.Span, of []int) []api.Span {
	var got []api.Span
	for i, k := range of {
		switch {
		case k < 0:
		case i > 0 && of[i-1] == k:
			got[len(got)-1].To = i + 1
		default:
			got = append(got, put(l[k], i, i+1))
		}
	}
	return got
}

// inserted is the owners behind scalars that come: they have a span, if the ones on both sides are of it, and one that Combines holds four.
func inserted(l []api.Span, of []int, at, n int) []int {
	at = min(at, len(of))
	come := -1
	if at > 0 && at < len(of) && of[at-1] == of[at] {
		come = of[at]
	}
	got := slices.Concat(of[:at], slices.Repeat([]int{come}, n), of[at:])
	for k, s := range l {
		has := 0
		for _, x := range got {
			if x == k {
				has++
			}
		}
		if s.Combine && has > 4 {
			for i, x := range got {
				if x == k {
					got[i] = -1
				}
			}
		}
	}
	return got
}

// hold holds spans against others.
func hold(t *testing.T, what string, l, got, want []api.Span) {
	t.Helper()
	if !slices.Equal(got, want) {
		t.Fatalf("%s of %v: %v, want %v", what, written(l), written(got), written(want))
	}
}

// P7.1: the numbers of the limits are those of the chapter.
func TestNumbers(t *testing.T) {
	if api.MaxSpans != 40 || api.MaxRuby != 20 || api.MaxCells != 64 || api.Mixed != 0 || api.AllUp != 1 || api.AllSide != 2 {
		t.Fatal("a limit, or a policy")
	}
}

// P7.1: one span's stretch, at all places near a short text's.
func TestRightStretch(t *testing.T) {
	for n := -2; n <= 5; n++ {
		for from := -3; from <= 6; from++ {
			for to := -3; to <= 6; to++ {
				want := false
				for at := range max(n, 0) {
					want = want || at == from && from < to && to <= n
				}
				if got := span.Right([]api.Span{{From: from, To: to}}, n); got != want {
					t.Errorf("Right of %d to %d, of %d: %v", from, to, n, got)
				}
			}
		}
	}
}

// P7.1: two stretches, and three, are right if they are those of a right list; in no other order.
func TestRightStretches(t *testing.T) {
	right := map[string]bool{}
	each(looks[:1], 4, func(l []api.Span) { right[written(l)] = true })
	var grow func(l []api.Span)
	grow = func(l []api.Span) {
		if got := span.Right(l, 4); got != right[written(l)] {
			t.Fatalf("Right of %v: %v", written(l), got)
		}
		if len(l) == 3 {
			return
		}
		for from := -1; from <= 5; from++ {
			for to := -1; to <= 5; to++ {
				grow(append(l, api.Span{From: from, To: to}))
			}
		}
	}
	grow(make([]api.Span, 0, 3))
}

// P7.1: stretches of very great texts, and numbers that are far.
func TestRightFar(t *testing.T) {
	const m = math.MaxInt
	for _, x := range []struct {
		l  []api.Span
		n  int
		is bool
	}{
		{nil, 0, true},
		{nil, m, true},
		{nil, -1, true}, // there is none that is wrong
		{[]api.Span{}, 7, true},
		{[]api.Span{{From: 0, To: m}}, m, true},
		{[]api.Span{{From: 0, To: m}}, m - 1, false},
		{[]api.Span{{From: m - 1, To: m}}, m, true},
		{[]api.Span{{From: m, To: m}}, m, false},
		{[]api.Span{{From: m, To: math.MinInt}}, m, false},
		{[]api.Span{{From: math.MinInt, To: m}}, m, false},
		{[]api.Span{{From: math.MinInt, To: 3}}, 5, false},
		{[]api.Span{{From: math.MinInt, To: math.MinInt + 1}}, 5, false},
		{[]api.Span{{From: 0, To: 1}}, math.MinInt, false},
		{[]api.Span{{From: 0, To: m, Combine: true}}, m, false},
		{[]api.Span{{From: m - 4, To: m, Combine: true}}, m, true},
		{[]api.Span{{From: m - 5, To: m, Combine: true}}, m, false},
		{[]api.Span{{From: 0, To: m - 1}, {From: m - 1, To: m}}, m, true},
		{[]api.Span{{From: 0, To: m}, {From: m - 1, To: m}}, m, false},
	} {
		if got := span.Right(x.l, x.n); got != x.is {
			t.Errorf("Right of %v, of %d: %v", written(x.l), x.n, got)
		}
	}
}

// P7.1: as many spans as there may be, and one more, of each style.
func TestRightMost(t *testing.T) {
	for _, s := range looks {
		var l []api.Span
		for i := range 60 {
			if got := span.Right(l, 100); got != (len(l) <= 40) {
				t.Fatalf("Right of %d of %v: %v", len(l), written([]api.Span{s}), got)
			}
			l = append(l, put(s, i, i+1))
		}
	}
}

// aloneAndAmong holds whether a style is right, on so many scalars, alone and at each place among others.
func aloneAndAmong(t *testing.T, s api.Span, long int, is bool) {
	t.Helper()
	for _, ahead := range []int{0, 1, 3} {
		for _, behind := range []int{0, 1, 2} {
			var l []api.Span
			for k := range ahead + 1 + behind {
				l = append(l, put(looks[k%len(looks)], 10*k, 10*k+3))
			}
			l[ahead] = put(s, 10*ahead, 10*ahead+long)
			if got := span.Right(l, 100); got != is {
				t.Errorf("Right of %v: %v", written(l), got)
			}
		}
	}
}

// P7.1: each policy, and numbers that are none.
func TestRightPolicy(t *testing.T) {
	for p := -3; p <= 6; p++ {
		aloneAndAmong(t, api.Span{Policy: api.Policy(p)}, 2, p == 0 || p == 1 || p == 2)
	}
	for _, p := range append([]int{256, 258, 1<<32 + 1}, far...) {
		aloneAndAmong(t, api.Span{Policy: api.Policy(p)}, 2, false)
	}
}

// P7.1: Scales: 0, those of numbers that take a cell at least, and the others.
func TestRightScale(t *testing.T) {
	for _, x := range []uint64{0, 1, 2, 0x000FFFFFFFFFFFFF, 0x0010000000000000, half, one - 1, one, one + 1, two, 0x4004000000000000, most - 1, most} {
		aloneAndAmong(t, api.Span{Scale: x}, 2, true)
	}
	for _, x := range []uint64{
		minus,                                                           // takes none
		most + 1, 0x4050400000000000, 1<<62 + 1<<61, 0x7FEFFFFFFFFFFFFF, // take too many
		minus + 1, minus + half, minus + one, minus + most, 0xFFEFFFFFFFFFFFFF, // below 0
		0x7FF0000000000000, 0xFFF0000000000000, // infinite
		0x7FF0000000000001, 0x7FF8000000000000, 0x7FFFFFFFFFFFFFFF, 0xFFF0000000000001, 0xFFF8000000000000, 0xFFFFFFFFFFFFFFFF, // no number
	} {
		aloneAndAmong(t, api.Span{Scale: x}, 2, false)
	}
}

// P7.1: one that Combines, with so many scalars, and with a Ruby.
func TestRightCombine(t *testing.T) {
	for long := 1; long <= 9; long++ {
		aloneAndAmong(t, api.Span{Combine: true}, long, long <= 4)
		aloneAndAmong(t, api.Span{Combine: true, Policy: api.AllSide, Scale: two}, long, long <= 4)
		aloneAndAmong(t, api.Span{Combine: true, Ruby: "a"}, long, false)
		aloneAndAmong(t, api.Span{Ruby: "a"}, long, true)
		aloneAndAmong(t, api.Span{}, long, true)
	}
	aloneAndAmong(t, api.Span{Combine: true, Policy: 3}, 2, false)
	aloneAndAmong(t, api.Span{Combine: true, Scale: minus}, 2, false)
}

// P7.1: Rubies by how many scalars they have, of each number of bytes.
func TestRightRuby(t *testing.T) {
	for _, c := range []string{"\x00", "a", "\x7f", "\u05d0", "\u3042", "\uffff", "\U0001f600", "\U0010ffff"} {
		for _, n := range []int{0, 1, 2, 19, 20, 21, 22, 40, 80, 81, 100, 1000} {
			aloneAndAmong(t, api.Span{Ruby: strings.Repeat(c, n)}, 2, n <= 20)
		}
		ahead := strings.Repeat(c, 19)
		aloneAndAmong(t, api.Span{Ruby: ahead + "a"}, 2, true)
		aloneAndAmong(t, api.Span{Ruby: ahead + "aa"}, 2, false)
	}
}

// P7.1: Rubies that are no scalars' bytes, by themselves and beside others.
func TestRightRubyBytes(t *testing.T) {
	for _, wrong := range []string{"\xff", "\x80", "\xc0\x80", "\xc1\xbf", "\xc3", "\xe0\x80\x80", "\xe3\x81", "\xed\xa0\x80", "\xed\xbf\xbf", "\xf0\x80\x80\x80", "\xf0\x9f\x98", "\xf4\x90\x80\x80", "\xf8\x88\x80\x80\x80"} {
		for _, r := range []string{wrong, "a" + wrong, wrong + "a", "\u3042" + wrong + "b", strings.Repeat("a", 19) + wrong} {
			aloneAndAmong(t, api.Span{Ruby: r}, 2, false)
		}
	}
	aloneAndAmong(t, api.Span{Ruby: "\ufffd"}, 2, true)
}

// P7.1: a text that is very long is no Ruby.
func TestRightRubyLong(t *testing.T) {
	long := strings.Repeat("a", 1<<24)
	var l []api.Span
	for i := range 40 {
		l = append(l, api.Span{From: i, To: i + 1, Ruby: long})
	}
	if span.Right(l, 40) {
		t.Error("Right")
	}
}

// P7.1: which span has a scalar, and how it looks, at each place of all short lists, and beside them.
func TestAtAndStyle(t *testing.T) {
	const n = 5
	each(looks, n, func(l []api.Span) {
		of := owners(l, n)
		for i := -3; i <= n+3; i++ {
			want, is, look := 0, false, api.Span{}
			if i >= 0 && i < n && of[i] >= 0 {
				want, is = of[i], true
				look = put(l[want], 0, 0)
			}
			if k, has := span.At(l, i); k != want || has != is {
				t.Fatalf("At of %v, %d: %d, %v", written(l), i, k, has)
			}
			if s := span.Style(l, i); s != look {
				t.Fatalf("Style of %v, %d: %v", written(l), i, s)
			}
		}
		for _, i := range far {
			if k, has := span.At(l, i); k != 0 || has || span.Style(l, i) != (api.Span{}) {
				t.Fatalf("At and Style of %v, %d: %d, %v", written(l), i, k, has)
			}
		}
	})
}

// P7.1: At and Style, written out.
func TestAtWrittenOut(t *testing.T) {
	full := api.Span{From: 4, To: 6, Policy: api.AllSide, Ruby: "\u3042", Scale: half}
	l := []api.Span{{From: 1, To: 3, Policy: api.AllUp}, full, {From: 6, To: 7}, {From: math.MaxInt - 1, To: math.MaxInt, Combine: true, Scale: one}}
	up, side, combined := api.Span{Policy: api.AllUp}, api.Span{Policy: api.AllSide, Ruby: "\u3042", Scale: half}, api.Span{Combine: true, Scale: one}
	for _, x := range []struct {
		i, k int
		has  bool
		look api.Span
	}{
		{math.MinInt, 0, false, api.Span{}}, {-1, 0, false, api.Span{}}, {0, 0, false, api.Span{}},
		{1, 0, true, up}, {2, 0, true, up}, {3, 0, false, api.Span{}},
		{4, 1, true, side}, {5, 1, true, side}, {6, 2, true, api.Span{}}, {7, 0, false, api.Span{}},
		{math.MaxInt - 2, 0, false, api.Span{}}, {math.MaxInt - 1, 3, true, combined}, {math.MaxInt, 0, false, api.Span{}},
	} {
		if k, has := span.At(l, x.i); k != x.k || has != x.has {
			t.Errorf("At of %d: %d, %v", x.i, k, has)
		}
		if s := span.Style(l, x.i); s != x.look {
			t.Errorf("Style of %d: %v", x.i, s)
		}
	}
}

// P7.1: Normal, written out.
func TestNormalWrittenOut(t *testing.T) {
	up, side := api.Span{Policy: api.AllUp}, api.Span{Policy: api.AllSide}
	wide, unit := api.Span{Scale: two}, api.Span{Scale: one}
	group, noted := api.Span{Combine: true}, api.Span{Ruby: "a"}
	for _, x := range []struct{ l, want []api.Span }{
		{nil, nil},
		{[]api.Span{}, nil},
		// Plain ones, alone, in a row, apart, and behind, ahead of and between others.
		{[]api.Span{{From: 0, To: 3}}, nil},
		{[]api.Span{{From: 0, To: 3}, {From: 3, To: 4}, {From: 6, To: 9}}, nil},
		{[]api.Span{{From: 0, To: 3}, put(up, 3, 4), {From: 4, To: 9}}, []api.Span{put(up, 3, 4)}},
		{[]api.Span{put(up, 0, 2), {From: 2, To: 3}, put(side, 3, 5)}, []api.Span{put(up, 0, 2), put(side, 3, 5)}},
		{[]api.Span{put(up, 0, 2), {From: 2, To: 3}, put(up, 3, 5)}, []api.Span{put(up, 0, 2), put(up, 3, 5)}},
		{[]api.Span{put(up, 0, 2), {From: 2, To: 3}, {From: 3, To: 4}, put(up, 4, 5), put(up, 5, 6)}, []api.Span{put(up, 0, 2), put(up, 4, 6)}},
		// Of one style, that touch, two and more of them.
		{[]api.Span{put(up, 0, 2), put(up, 2, 4)}, []api.Span{put(up, 0, 4)}},
		{[]api.Span{put(up, 1, 2), put(up, 2, 3), put(up, 3, 4), put(up, 4, 9)}, []api.Span{put(up, 1, 9)}},
		{[]api.Span{put(wide, 1, 2), put(wide, 2, 3)}, []api.Span{put(wide, 1, 3)}},
		{[]api.Span{put(unit, 1, 2), put(unit, 2, 3)}, []api.Span{put(unit, 1, 3)}},
		{[]api.Span{put(up, 0, 1), put(up, 1, 2), put(side, 2, 3), put(side, 3, 4), put(up, 4, 5), put(up, 5, 6)}, []api.Span{put(up, 0, 2), put(side, 2, 4), put(up, 4, 6)}},
		// Of one style, that do not touch.
		{[]api.Span{put(up, 0, 2), put(up, 3, 4)}, []api.Span{put(up, 0, 2), put(up, 3, 4)}},
		{[]api.Span{put(up, 0, 2), put(side, 2, 3), put(up, 3, 4)}, []api.Span{put(up, 0, 2), put(side, 2, 3), put(up, 3, 4)}},
		// Of styles of which one thing is another, or that take as many cells by other bits.
		{[]api.Span{put(up, 0, 2), put(side, 2, 4)}, []api.Span{put(up, 0, 2), put(side, 2, 4)}},
		{[]api.Span{put(wide, 0, 2), put(unit, 2, 4)}, []api.Span{put(wide, 0, 2), put(unit, 2, 4)}},
		{[]api.Span{{From: 0, To: 2, Scale: half}, put(unit, 2, 4)}, []api.Span{{From: 0, To: 2, Scale: half}, put(unit, 2, 4)}},
		{[]api.Span{put(up, 0, 2), {From: 2, To: 4, Policy: api.AllUp, Scale: one}}, []api.Span{put(up, 0, 2), {From: 2, To: 4, Policy: api.AllUp, Scale: one}}},
		{[]api.Span{put(unit, 0, 2), {From: 2, To: 4}}, []api.Span{put(unit, 0, 2)}},
		// That Combine, or have a Ruby.
		{[]api.Span{put(group, 0, 2), put(group, 2, 4)}, []api.Span{put(group, 0, 2), put(group, 2, 4)}},
		{[]api.Span{put(group, 0, 4), put(group, 4, 8)}, []api.Span{put(group, 0, 4), put(group, 4, 8)}},
		{[]api.Span{put(noted, 0, 2), put(noted, 2, 4), put(noted, 4, 5)}, []api.Span{put(noted, 0, 2), put(noted, 2, 4), put(noted, 4, 5)}},
		{[]api.Span{put(noted, 0, 2), {From: 2, To: 4, Ruby: "b"}}, []api.Span{put(noted, 0, 2), {From: 2, To: 4, Ruby: "b"}}},
		{[]api.Span{{From: 0, To: 2, Policy: api.AllUp, Ruby: "a"}, {From: 2, To: 4, Policy: api.AllUp, Ruby: "a"}, put(up, 4, 5), put(up, 5, 6), {From: 6, To: 7, Policy: api.AllUp, Combine: true}, {From: 7, To: 8, Policy: api.AllUp, Combine: true}}, []api.Span{{From: 0, To: 2, Policy: api.AllUp, Ruby: "a"}, {From: 2, To: 4, Policy: api.AllUp, Ruby: "a"}, put(up, 4, 6), {From: 6, To: 7, Policy: api.AllUp, Combine: true}, {From: 7, To: 8, Policy: api.AllUp, Combine: true}}},
		{[]api.Span{put(group, 0, 2), {From: 2, To: 3}, put(group, 3, 4)}, []api.Span{put(group, 0, 2), put(group, 3, 4)}},
		// Very great ones.
		{[]api.Span{put(up, 0, math.MaxInt-1), put(up, math.MaxInt-1, math.MaxInt)}, []api.Span{put(up, 0, math.MaxInt)}},
	} {
		hold(t, "Normal", x.l, span.Normal(x.l), x.want)
	}
}

// shortest is spans as short as may be, of the text's scalars, one by one: what Combines or has a Ruby stays as it is.
func shortest(l []api.Span, n int) []api.Span {
	of := owners(l, n)
	var got []api.Span
	for i, k := range of {
		if k < 0 || put(l[k], 0, 0) == (api.Span{}) {
			continue
		}
		last := -1
		if i > 0 {
			last = of[i-1]
		}
		one := last == k || last >= 0 && !l[k].Combine && l[k].Ruby == "" && put(l[last], 0, 0) == put(l[k], 0, 0)
		if one {
			got[len(got)-1].To = i + 1
			continue
		}
		got = append(got, put(l[k], i, i+1))
	}
	return got
}

// P7.1, P7.2: Normal of all short lists is as short as may be, right, and leaves each scalar's style; and there is nothing more to make shorter.
func TestNormal(t *testing.T) {
	const n = 5
	styles := append(slices.Clone(looks), api.Span{Policy: api.AllUp, Ruby: "b"})
	each(styles, n, func(l []api.Span) {
		short := span.Normal(l)
		hold(t, "Normal", l, short, shortest(l, n))
		hold(t, "Normal again", l, span.Normal(short), short)
		if !span.Right(short, n) {
			t.Fatalf("Normal of %v is not right: %v", written(l), written(short))
		}
		for i := -1; i <= n; i++ {
			if got, want := span.Style(short, i), span.Style(l, i); got != want {
				t.Fatalf("the style of %d, Normal of %v: %v, want %v", i, written(l), got, want)
			}
		}
	})
}

// P7.2: as many spans as there may be keep each scalar's style, too.
func TestNormalMost(t *testing.T) {
	for _, step := range []int{1, 2, 3} {
		for _, long := range []int{1, 2, 3, 4} {
			var l []api.Span
			for k := range 40 {
				l = append(l, put(looks[k/step%len(looks)], 5*k/step, 5*k/step+min(long, 5/step)))
			}
			n := l[39].To
			if !span.Right(l, n) {
				t.Fatalf("%v is not right", written(l))
			}
			short := span.Normal(l)
			hold(t, "Normal", l, short, shortest(l, n))
			for i := range n {
				if span.Style(short, i) != span.Style(l, i) {
					t.Fatalf("the style of %d, Normal of %v", i, written(l))
				}
			}
		}
	}
}

// base is spans with a gap ahead, two that touch, and a gap between, for what is written out.
var base = []api.Span{{From: 2, To: 5, Policy: api.AllUp}, {From: 5, To: 7, Ruby: "ab"}, {From: 8, To: 11, Combine: true}, {From: 11, To: 12, Scale: two}}

// ends is the ends of base's spans, changed; those of one that is dropped are 0.
func ends(of ...int) []api.Span {
	var l []api.Span
	for k, s := range base {
		if of[2*k] != 0 || of[2*k+1] != 0 {
			l = append(l, put(s, of[2*k], of[2*k+1]))
		}
	}
	return l
}

// P7.1, P7.3: Insert, written out.
func TestInsertWrittenOut(t *testing.T) {
	for _, x := range []struct {
		at, n int
		want  []api.Span
	}{
		{0, 3, ends(5, 8, 8, 10, 11, 14, 14, 15)},                                   // ahead of all
		{1, 1, ends(3, 6, 6, 8, 9, 12, 12, 13)},                                     // ahead of all
		{2, 3, ends(5, 8, 8, 10, 11, 14, 14, 15)},                                   // at a From
		{3, 3, ends(2, 8, 8, 10, 11, 14, 14, 15)},                                   // within
		{4, 1, ends(2, 6, 6, 8, 9, 12, 12, 13)},                                     // within, ahead of its last one
		{5, 3, ends(2, 5, 8, 10, 11, 14, 14, 15)},                                   // where two touch
		{6, 3, ends(2, 5, 5, 10, 11, 14, 14, 15)},                                   // within one with a Ruby
		{7, 3, ends(2, 5, 5, 7, 11, 14, 14, 15)},                                    // at a To, nothing behind
		{8, 3, ends(2, 5, 5, 7, 11, 14, 14, 15)},                                    // at a From, nothing ahead
		{9, 1, ends(2, 5, 5, 7, 8, 12, 12, 13)},                                     // within one that Combines: four
		{10, 1, ends(2, 5, 5, 7, 8, 12, 12, 13)},                                    // likewise
		{9, 2, ends(2, 5, 5, 7, 0, 0, 13, 14)},                                      // five: it is dropped
		{10, 7, ends(2, 5, 5, 7, 0, 0, 18, 19)},                                     // more
		{8, 2, ends(2, 5, 5, 7, 10, 13, 13, 14)},                                    // at its From it does not grow
		{11, 2, ends(2, 5, 5, 7, 8, 11, 13, 14)},                                    // nor at its To
		{12, 3, ends(2, 5, 5, 7, 8, 11, 11, 12)},                                    // behind all
		{13, 3, ends(2, 5, 5, 7, 8, 11, 11, 12)},                                    // behind all
		{math.MaxInt, 3, ends(2, 5, 5, 7, 8, 11, 11, 12)},                           // far behind
		{math.MaxInt, math.MaxInt, ends(2, 5, 5, 7, 8, 11, 11, 12)},                 // likewise
		{12, math.MaxInt, ends(2, 5, 5, 7, 8, 11, 11, 12)},                          // behind all
		{11, 1 << 40, ends(2, 5, 5, 7, 8, 11, 11+1<<40, 12+1<<40)},                  // very many
		{9, 1 << 40, ends(2, 5, 5, 7, 0, 0, 11+1<<40, 12+1<<40)},                    // within one that Combines
		{11, math.MaxInt - 12, ends(2, 5, 5, 7, 8, 11, math.MaxInt-1, math.MaxInt)}, // as far as numbers go
		{9, math.MaxInt - 12, ends(2, 5, 5, 7, 0, 0, math.MaxInt-1, math.MaxInt)},
		{-1, 3, base}, {math.MinInt, 3, base}, {3, -1, base}, {3, math.MinInt, base}, {-1, -1, base}, {-1, 0, base}, {0, -1, base}, {math.MaxInt, -1, base}, {math.MinInt, math.MaxInt, base},
	} {
		hold(t, fmt.Sprintf("Insert %d, %d,", x.at, x.n), base, span.Insert(base, x.at, x.n), x.want)
	}
	for at := -2; at <= 14; at++ {
		hold(t, fmt.Sprintf("Insert %d, 0,", at), base, span.Insert(base, at, 0), base)
	}
}

// P7.1: so many scalars come within one that Combines: it grows up to four, and is dropped beyond.
func TestInsertCombine(t *testing.T) {
	for long := 1; long <= 4; long++ {
		l := []api.Span{{From: 3, To: 3 + long, Combine: true, Policy: api.AllSide, Scale: half}}
		for at := 0; at <= 9; at++ {
			for n := range 7 {
				want := []api.Span{l[0]}
				switch within := at > 3 && at < 3+long; {
				case within && long+n > 4:
					want = nil
				case within:
					want[0].To += n
				case at <= 3:
					want[0].From += n
					want[0].To += n
				}
				hold(t, fmt.Sprintf("Insert %d, %d,", at, n), l, span.Insert(l, at, n), want)
			}
			if at > 3 && at < 3+long {
				for _, n := range []int{1 << 20, math.MaxInt - 7, math.MaxInt - 4, math.MaxInt - 3, math.MaxInt - 2, math.MaxInt - 1, math.MaxInt} {
					hold(t, fmt.Sprintf("Insert %d, %d,", at, n), l, span.Insert(l, at, n), nil)
				}
			}
		}
	}
}

// P7.1: ends that are moved beyond all numbers wrap round, as all of its arithmetic.
func TestInsertWraps(t *testing.T) {
	l := []api.Span{{From: 0, To: 2, Policy: api.AllUp}, {From: 2, To: 4, Combine: true}}
	want := []api.Span{{From: 0, To: math.MinInt + 1, Policy: api.AllUp}, {From: math.MinInt + 1, To: math.MinInt + 3, Combine: true}}
	hold(t, "Insert", l, span.Insert(l, 1, math.MaxInt), want)
}

// P7.1, P7.3: Insert into all short lists is as if each scalar held its span; what comes within no span is plain, and leaves the others' styles.
func TestInsert(t *testing.T) {
	const n = 5
	each(looks, n, func(l []api.Span) {
		of := owners(l, n)
		for at := -1; at <= n+2; at++ {
			for come := -1; come <= 4; come++ {
				want := l
				if at >= 0 && come >= 0 {
					want = gathered(l, inserted(l, of, at, come))
				}
				got := span.Insert(l, at, come)
				hold(t, fmt.Sprintf("Insert %d, %d,", at, come), l, got, want)
				if at < 0 || come < 0 {
					continue
				}
				if !span.Right(got, n+come) {
					t.Fatalf("Insert %d, %d, of %v is not right: %v", at, come, written(l), written(got))
				}
				within := at > 0 && at < n && of[at-1] >= 0 && of[at-1] == of[at]
				if !within {
					holdOthers(t, l, got, n, at, come)
				}
			}
		}
	})
}

// holdOthers holds the styles behind scalars that come within no span: theirs is plain, the others' is what it was.
func holdOthers(t *testing.T, l, got []api.Span, n, at, come int) {
	t.Helper()
	for i := -1; i <= n; i++ {
		there := i
		if i >= at {
			there += come
		}
		if span.Style(got, there) != span.Style(l, i) {
			t.Fatalf("Insert %d, %d, of %v: the style of %d that was %d: %v", at, come, written(l), there, i, written(got))
		}
	}
	for i := at; i < at+come; i++ {
		if _, has := span.At(got, i); has {
			t.Fatalf("Insert %d, %d, of %v: %d has a span: %v", at, come, written(l), i, written(got))
		}
	}
}

// P7.3: what comes within a span has its style, unless that is dropped; and leaves the others' styles.
func TestInsertWithin(t *testing.T) {
	for _, s := range looks {
		l := []api.Span{put(looks[1], 0, 3), put(s, 3, 6), put(looks[2], 6, 8)}
		for at := 4; at <= 5; at++ {
			for come := range 4 {
				got := span.Insert(l, at, come)
				look := s
				if s.Combine && come > 1 {
					look = api.Span{}
				}
				for i := range 8 + come {
					want := looks[1]
					switch {
					case i >= 6+come:
						want = looks[2]
					case i >= 3:
						want = look
					}
					if span.Style(got, i) != want {
						t.Fatalf("Insert %d, %d, of %v: %v", at, come, written(l), written(got))
					}
				}
			}
		}
	}
}

// P7.1, P7.3: Delete, written out.
func TestDeleteWrittenOut(t *testing.T) {
	const m = math.MaxInt
	for _, x := range []struct {
		from, to int
		want     []api.Span
	}{
		{0, 2, ends(0, 3, 3, 5, 6, 9, 9, 10)},                              // ahead of all
		{0, 1, ends(1, 4, 4, 6, 7, 10, 10, 11)},                            // ahead of all
		{2, 5, ends(0, 0, 2, 4, 5, 8, 8, 9)},                               // a whole one
		{1, 6, ends(0, 0, 1, 2, 3, 6, 6, 7)},                               // a whole one, what is ahead, and a head
		{2, 3, ends(2, 4, 4, 6, 7, 10, 10, 11)},                            // a head
		{1, 3, ends(1, 3, 3, 5, 6, 9, 9, 10)},                              // a head, and what is ahead
		{4, 5, ends(2, 4, 4, 6, 7, 10, 10, 11)},                            // a tail
		{3, 4, ends(2, 4, 4, 6, 7, 10, 10, 11)},                            // from the midst
		{4, 6, ends(2, 4, 4, 5, 6, 9, 9, 10)},                              // from within one to within the next
		{3, 9, ends(2, 3, 0, 0, 3, 5, 5, 6)},                               // from within one to within another
		{6, 8, ends(2, 5, 5, 6, 6, 9, 9, 10)},                              // a tail, and what is behind
		{7, 8, ends(2, 5, 5, 7, 7, 10, 10, 11)},                            // what no span has
		{8, 11, ends(2, 5, 5, 7, 0, 0, 8, 9)},                              // one that Combines
		{9, 10, ends(2, 5, 5, 7, 8, 10, 10, 11)},                           // of one that Combines
		{8, 10, ends(2, 5, 5, 7, 8, 9, 9, 10)},                             // of one that Combines
		{5, 12, ends(2, 5, 0, 0, 0, 0, 0, 0)},                              // all behind
		{0, 12, nil}, {0, 99, nil}, {0, m, nil}, {2, 12, nil}, {1, m, nil}, // all
		{3, m, ends(2, 3, 0, 0, 0, 0, 0, 0)}, {11, m, ends(2, 5, 5, 7, 8, 11, 0, 0)}, {12, m, base}, {13, 15, base}, {m, m, base}, {m - 1, m, base},
		{-1, 3, base}, {math.MinInt, 3, base}, {-3, -1, base}, {math.MinInt, math.MinInt, base}, {-1, -1, base}, {math.MinInt, m, base},
		{4, 3, base}, {1, 0, base}, {0, -1, base}, {m, 0, base}, {m, m - 1, base}, {0, math.MinInt, base}, {m, math.MinInt, base}, {5, -5, base},
	} {
		hold(t, fmt.Sprintf("Delete %d, %d,", x.from, x.to), base, span.Delete(base, x.from, x.to), x.want)
	}
	for at := range 15 {
		hold(t, fmt.Sprintf("Delete %d, %d,", at, at), base, span.Delete(base, at, at), base)
	}
}

// P7.1: very great stretches lose scalars.
func TestDeleteFar(t *testing.T) {
	const m = math.MaxInt
	l := []api.Span{{From: 0, To: m - 4, Policy: api.AllUp}, {From: m - 4, To: m, Combine: true}}
	for _, x := range []struct {
		from, to int
		want     []api.Span
	}{
		{0, m, nil},
		{0, m - 4, []api.Span{{From: 0, To: 4, Combine: true}}},
		{1, m - 1, []api.Span{{From: 0, To: 1, Policy: api.AllUp}, {From: 1, To: 2, Combine: true}}},
		{m - 3, m, []api.Span{{From: 0, To: m - 4, Policy: api.AllUp}, {From: m - 4, To: m - 3, Combine: true}}},
		{m - 5, m - 3, []api.Span{{From: 0, To: m - 5, Policy: api.AllUp}, {From: m - 5, To: m - 2, Combine: true}}},
		{m, m, l}, {0, 0, l},
	} {
		hold(t, fmt.Sprintf("Delete %d, %d,", x.from, x.to), l, span.Delete(l, x.from, x.to), x.want)
	}
}

// P7.1, P7.3: Delete from all short lists is as if each scalar held its span; what goes leaves the others' styles.
func TestDelete(t *testing.T) {
	const n = 5
	each(looks, n, func(l []api.Span) {
		of := owners(l, n)
		for from := -1; from <= n+1; from++ {
			for to := -1; to <= n+2; to++ {
				if from < 0 || from > to {
					hold(t, fmt.Sprintf("Delete %d, %d,", from, to), l, span.Delete(l, from, to), l)
					continue
				}
				got := span.Delete(l, from, to)
				left := slices.Delete(slices.Clone(of), min(from, n), min(to, n))
				hold(t, fmt.Sprintf("Delete %d, %d,", from, to), l, got, gathered(l, left))
				if !span.Right(got, len(left)) {
					t.Fatalf("Delete %d, %d, of %v is not right: %v", from, to, written(l), written(got))
				}
				for i := range n {
					there := i
					if i >= from {
						there -= to - from
					}
					if (i < from || i >= to) && span.Style(got, there) != span.Style(l, i) {
						t.Fatalf("Delete %d, %d, of %v: the style of %d that was %d: %v", from, to, written(l), there, i, written(got))
					}
				}
			}
		}
	})
}

// P7.1, P7.3: what came goes again, and all is as it was, if it came within none that is dropped.
func TestThereAndBack(t *testing.T) {
	each(looks, 4, func(l []api.Span) {
		for at := range 5 {
			for n := range 4 {
				there := span.Insert(l, at, n)
				if len(there) == len(l) {
					hold(t, "Delete of Insert", l, span.Delete(there, at, at+n), l)
				}
			}
		}
	})
}

// P1: no spans.
func TestNone(t *testing.T) {
	for _, l := range [][]api.Span{nil, {}, base[:0], base[2:2]} {
		for _, i := range append([]int{0, 1, 2, 40}, far...) {
			if k, has := span.At(l, i); k != 0 || has || span.Style(l, i) != (api.Span{}) {
				t.Errorf("At and Style of %d: %d, %v", i, k, has)
			}
			for _, k := range append([]int{0, 1, 2, 40}, far...) {
				if len(span.Insert(l, i, k)) != 0 || len(span.Delete(l, i, k)) != 0 {
					t.Errorf("Insert and Delete of %d, %d", i, k)
				}
			}
		}
		if len(span.Normal(l)) != 0 || !span.Right(l, 0) || !span.Right(l, 7) {
			t.Error("Normal and Right")
		}
	}
}

// P1: spans that are not right are not right, and no call on them fails to end, or panics.
func TestWrongSpans(t *testing.T) {
	numbers := append([]int{0, 1, 2, 5}, far...)
	for _, from := range numbers {
		for _, to := range numbers {
			for _, s := range []api.Span{{}, {Policy: -7, Combine: true, Ruby: "\xff"}, {Policy: 9, Ruby: strings.Repeat("a", 99), Scale: math.MaxUint64}} {
				l := []api.Span{put(s, from, to), {From: 3, To: 1}, put(s, to, from), {From: 0, To: 9, Combine: true}}
				if span.Right(l, 9) {
					t.Errorf("Right of %v", written(l))
				}
				span.Normal(l)
				for _, i := range numbers {
					span.Right(l, i)
					span.At(l, i)
					span.Style(l, i)
					for _, k := range numbers {
						span.Insert(l, i, k)
						span.Delete(l, i, k)
					}
				}
			}
		}
	}
}

// answers is what is answered of spans, each list by its own call.
func answers(l []api.Span) [][]api.Span {
	return [][]api.Span{
		span.Normal(l),
		span.Insert(l, 0, 3), span.Insert(l, 4, 1), span.Insert(l, 6, 0), span.Insert(l, 99, 2), span.Insert(l, -1, 2), span.Insert(l, 2, -2),
		span.Delete(l, 0, 1), span.Delete(l, 3, 6), span.Delete(l, 4, 4), span.Delete(l, 99, 100), span.Delete(l, -1, 2), span.Delete(l, 3, 2), span.Delete(l, 0, 99),
	}
}

// spoil writes into all of a list's memory.
func spoil(l []api.Span) {
	for i := range l[:cap(l)] {
		l[:cap(l)][i] = api.Span{From: -7, To: -9, Ruby: "x"}
	}
}

// P2: what is handed in is not written into, what lies behind its length tells nothing, and what is answered shares no memory with it, or with another answer.
func TestGivenStays(t *testing.T) {
	all := []api.Span{{From: 0, To: 2, Policy: api.AllUp}, {From: 2, To: 3, Policy: api.AllUp}, {From: 3, To: 5}, {From: 5, To: 9, Combine: true}, {From: 9, To: 12, Ruby: "ab"}, {From: 12, To: 13, Scale: two}, {From: 13, To: 15, Scale: two}}
	kept := slices.Clone(all)
	for n := range len(all) + 1 {
		l := all[:n]
		own := answers(slices.Clone(l))
		for k, a := range answers(l) {
			hold(t, fmt.Sprintf("answer %d", k), l, a, own[k])
			spoil(a)
			hold(t, "what was handed in", all, all, kept)
		}
		first := answers(l)
		for k := range first {
			spoil(first[k])
			for i := k + 1; i < len(first); i++ {
				hold(t, fmt.Sprintf("answer %d behind %d", i, k), l, first[i], own[i])
			}
		}
		given := slices.Clone(l)
		told := answers(given)
		spoil(given)
		for k := range told {
			hold(t, fmt.Sprintf("answer %d, kept", k), l, told[k], own[k])
		}
		for _, behind := range all {
			for k, a := range answers(append(slices.Clone(l), behind, behind)[:n]) {
				hold(t, fmt.Sprintf("answer %d", k), l, a, own[k])
			}
		}
	}
}

// P2: Right, At and Style, asked between others and again, tell the same; spans that are changed between two calls are read afresh.
func TestChanged(t *testing.T) {
	l := slices.Clone(base)
	for range 3 {
		if k, has := span.At(l, 6); !span.Right(l, 12) || k != 1 || !has || span.Style(l, 6).Ruby != "ab" {
			t.Fatal("Right, At, Style")
		}
		answers(l)
	}
	l[1].Ruby, l[1].Policy = "\xff", api.AllSide
	if span.Right(l, 12) || span.Style(l, 6) != (api.Span{Ruby: "\xff", Policy: api.AllSide}) {
		t.Fatal("Right and Style, changed")
	}
	l[1].To = 6
	if _, has := span.At(l, 6); has {
		t.Fatal("At, changed")
	}
}
