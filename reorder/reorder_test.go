package reorder_test

import (
	"math"
	"slices"
	"strings"
	"testing"

	"frisket/api"
	"frisket/reorder"
	"frisket/resolve"
)

// most is the greatest level of a line.
const most = 127

// edges is the levels that the chapter's bounds, and those of a paragraph, are beside.
var edges = []int{0, 1, 2, 125, 126, 127}

// noLevels is numbers that may not be a line's level: those just beyond, great ones, and those of which some bits are a level's.
var noLevels = []int{math.MinInt, math.MinInt + 1, math.MinInt + 127, -1<<32 - 1, -1 << 32, -1<<32 + 1, math.MinInt32, -1 << 16, -1<<16 + 2, -257, -256, -255, -130, -129, -128, -127, -126, -125, -3, -2, -1, 128, 129, 130, 131, 200, 253, 254, 255, 256, 257, 258, 383, 384, 1 << 15, 1<<16 - 1, 1 << 16, 1<<16 + 1, math.MaxInt32, math.MaxInt32 + 1, math.MaxUint32, 1 << 32, 1<<32 + 1, 1<<32 + 127, math.MaxInt - 127, math.MaxInt - 1, math.MaxInt}

// listed is the numbers of a text's figures, that go on with letters.
func listed(s string) []int {
	var l []int
	for _, c := range s {
		l = append(l, strings.IndexRune("0123456789abcdefghijklmnopqrstuvwxyz", c))
	}
	return l
}

// row is a number, several times over.
func row(n, level int) []int {
	return slices.Repeat([]int{level}, n)
}

// up is the numbers from one on, below another.
func up(from, to int) []int {
	var l []int
	for i := from; i < to; i++ {
		l = append(l, i)
	}
	return l
}

// down is the numbers below one, down to another.
func down(from, to int) []int {
	return turned(up(to, from))
}

// everySecond is each second number from one on, up to another.
func everySecond(from, to int) []int {
	var l []int
	for i := from; i <= to; i += 2 {
		l = append(l, i)
	}
	return l
}

// turned is a list, turned round.
func turned(l []int) []int {
	var back []int
	for i := range l {
		back = append(back, l[len(l)-1-i])
	}
	return back
}

// raised is numbers, each that much greater.
func raised(l []int, more int) []int {
	var all []int
	for _, n := range l {
		all = append(all, n+more)
	}
	return all
}

// each hands out all lists of some numbers, up to a length.
func each(of []int, longest int, do func([]int)) {
	var grow func(l []int)
	grow = func(l []int) {
		do(slices.Clone(l))
		if len(l) == longest {
			return
		}
		for _, n := range of {
			grow(append(l, n))
		}
	}
	grow(make([]int, 0, longest))
}

// mixed is a long list that a rule of its own mixes.
func mixed(of []int, n, at int) []int {
	l := make([]int, n)
	for i := range l {
		at = at * 75 % 65537
		l[i] = of[at%len(of)]
	}
	return l
}

// walked is a long list whose levels go up and down, by one or stay, within bounds.
func walked(n, at, least, greatest int) []int {
	l := make([]int, n)
	level := least
	for i := range l {
		at = at * 75 % 65537
		level = min(max(level+at%3-1, least), greatest)
		l[i] = level
	}
	return l
}

// eachList hands out lists of levels: all short ones, and long mixed ones.
func eachList(do func([]int)) {
	each([]int{0, 1, 2}, 8, do)
	each([]int{0, 1, 2, 3}, 6, do)
	each([]int{0, 1, 2, 3, 4, 5}, 5, do)
	each(edges, 5, do)
	each([]int{1, 64, 127}, 7, do)
	eachLong(do)
}

// eachLong hands out long mixed lists of levels.
func eachLong(do func([]int)) {
	for _, of := range [][]int{edges, {0, 1}, {1, 2}, {0, 2}, {1, 3}, {2, 4, 7}, {0, 1, 2, 3, 4, 5, 6, 7, 8, 9}, up(0, most+1), up(100, most+1), {0, 0, 0, 0, 0, 0, 5}, {9, 9, 9, 9, 9, 2}, {126, 127}} {
		for at := range 12 {
			do(mixed(of, 9+23*at, at+1))
		}
	}
	for at := range 12 {
		do(walked(9+23*at, at+1, 0, most))
		do(walked(9+23*at, at+1, 0, 4))
		do(walked(9+23*at, at+1, 123, most))
		do(walked(9+23*at, at+1, 1, 2))
	}
}

// read is the order of levels, by the words of the chapter: for each level, from the greatest down to 1, what is beside one another in the order as it is by then is turned round.
func read(levels []int) []int {
	order := up(0, len(levels))
	for level := most; level >= 1; level-- {
		for from := 0; from < len(order); from++ {
			to := from
			for to < len(order) && levels[order[to]] >= level {
				to++
			}
			for i, k := from, to-1; i < k; i, k = i+1, k-1 {
				order[i], order[k] = order[k], order[i]
			}
			from = to
		}
	}
	return order
}

// counted is the order of levels, two places by two: they are turned round together once for each level up to the least that is between them.
func counted(levels []int) []int {
	ahead := make([]int, len(levels))
	for i := range levels {
		least := levels[i]
		for k := i + 1; k < len(levels); k++ {
			least = min(least, levels[k])
			if least%2 == 0 {
				ahead[k]++
			} else {
				ahead[i]++
			}
		}
	}
	order := make([]int, len(levels))
	for i, n := range ahead {
		order[n] = i
	}
	return order
}

// hold holds the order of levels: by itself, and of a line that is reversed, and one that is not.
func hold(t *testing.T, levels, want []int) {
	t.Helper()
	order, e := reorder.Order(levels)
	if e != api.OK || !slices.Equal(order, want) {
		t.Fatalf("%v: %v, %v, want %v", levels, order, e, want)
	}
	order, e = reorder.Apply(levels, false)
	if e != api.OK || !slices.Equal(order, want) {
		t.Fatalf("%v, not reversed: %v, %v, want %v", levels, order, e, want)
	}
	order, e = reorder.Apply(levels, true)
	if e != api.OK || !slices.Equal(order, turned(want)) {
		t.Fatalf("%v, reversed: %v, %v, want %v", levels, order, e, turned(want))
	}
}

// holdRaised holds an order, written out, of levels written out, and of these raised as far as they may be: one more turns all round, two more change nothing.
func holdRaised(t *testing.T, levels, want []int) {
	t.Helper()
	for more := 0; more == 0 || len(levels) > 0 && slices.Max(levels)+more <= most; more++ {
		if more%2 == 0 {
			hold(t, raised(levels, more), want)
		} else {
			hold(t, raised(levels, more), turned(want))
		}
	}
}

// refused holds that levels are wrong, and are not written into.
func refused(t *testing.T, levels []int) {
	t.Helper()
	kept := slices.Clone(levels)
	if l, e := reorder.Order(levels); e != api.ErrLevel || len(l) != 0 {
		t.Errorf("%v: %v, %v", kept, l, e)
	}
	for _, reversed := range []bool{false, true} {
		if l, e := reorder.Apply(levels, reversed); e != api.ErrLevel || len(l) != 0 {
			t.Errorf("%v, reversed %v: %v, %v", kept, reversed, l, e)
		}
	}
	if !slices.Equal(levels, kept) {
		t.Errorf("%v: with an error what is handed in is written into: %v", kept, levels)
	}
}

// holdBack holds where the places of an order are.
func holdBack(t *testing.T, order, want []int) {
	t.Helper()
	back, e := reorder.Back(order)
	if e != api.OK || !slices.Equal(back, want) {
		t.Fatalf("back of %v: %v, %v, want %v", order, back, e, want)
	}
}

// noOrder holds that a list is no order, and is not written into.
func noOrder(t *testing.T, l []int) {
	t.Helper()
	kept := slices.Clone(l)
	if back, e := reorder.Back(l); e != api.ErrArg || len(back) != 0 {
		t.Errorf("back of %v: %v, %v", kept, back, e)
	}
	if !slices.Equal(l, kept) {
		t.Errorf("back of %v: with an error what is handed in is written into: %v", kept, l)
	}
}

// found is where each place of an order is.
func found(order []int) []int {
	var l []int
	for place := range order {
		l = append(l, slices.Index(order, place))
	}
	return l
}

// P14.1: the bound that the chapter names, and what is wrong, have their numbers.
func TestNumbers(t *testing.T) {
	if api.MaxLevel != 125 || most != api.MaxLevel+2 || api.OK != 0 || api.ErrArg != 1 || api.ErrLevel != 81 {
		t.Fatal(api.MaxLevel, api.OK, api.ErrArg, api.ErrLevel)
	}
}

// P14.1: no levels, and nil, in all three functions.
func TestNothing(t *testing.T) {
	for _, l := range [][]int{nil, {}, listed("0123")[:0], noLevels[:0]} {
		hold(t, l, nil)
		holdBack(t, l, nil)
	}
}

// P14.1: the levels of the document's example.
func TestExample(t *testing.T) {
	hold(t, []int{0, 1, 1, 2, 2, 1, 0}, []int{0, 5, 3, 4, 2, 1, 6})
}

// P14.1: one place, of each level.
func TestOne(t *testing.T) {
	holdRaised(t, []int{0}, []int{0})
	for level := range most + 1 {
		hold(t, []int{level}, []int{0})
	}
	holdBack(t, []int{0}, []int{0})
}

// P14.1: all places of one level, even and odd.
func TestOneLevel(t *testing.T) {
	for n := range 40 {
		hold(t, row(n, 0), up(0, n))
		for _, level := range []int{1, 2, 3, 4, 63, 64, 124, 125, 126, 127} {
			want := up(0, n)
			if level%2 == 1 {
				want = down(n, 0)
			}
			hold(t, row(n, level), want)
		}
		holdRaised(t, row(n, 0), up(0, n))
	}
}

// P14.1: two places, of all levels: the less deep one tells in which direction they are read.
func TestTwo(t *testing.T) {
	for one := range most + 1 {
		for two := range most + 1 {
			want := []int{0, 1}
			if min(one, two)%2 == 1 {
				want = []int{1, 0}
			}
			hold(t, []int{one, two}, want)
		}
	}
}

// P14.1: the levels 0, 1, 2, 125, 126 and 127, beside one another, written out.
func TestEdges(t *testing.T) {
	for _, x := range []struct{ levels, want []int }{
		{[]int{0, 1, 2, 125, 126, 127}, []int{0, 2, 4, 5, 3, 1}},
		{[]int{127, 126, 125, 2, 1, 0}, []int{4, 2, 0, 1, 3, 5}},
		{[]int{0, 127, 0}, []int{0, 1, 2}},
		{[]int{0, 127, 127, 0}, []int{0, 2, 1, 3}},
		{[]int{0, 126, 126, 0}, []int{0, 1, 2, 3}},
		{[]int{0, 125, 125, 0}, []int{0, 2, 1, 3}},
		{[]int{1, 127, 127, 1}, []int{3, 2, 1, 0}},
		{[]int{1, 126, 126, 1}, []int{3, 1, 2, 0}},
		{[]int{1, 125, 125, 1}, []int{3, 2, 1, 0}},
		{[]int{2, 127, 127, 2}, []int{0, 2, 1, 3}},
		{[]int{2, 126, 126, 2}, []int{0, 1, 2, 3}},
		{[]int{125, 126, 127, 126, 125}, []int{4, 1, 2, 3, 0}},
		{[]int{125, 126, 126, 125}, []int{3, 1, 2, 0}},
		{[]int{126, 127, 127, 126}, []int{0, 2, 1, 3}},
		{[]int{127, 126, 127}, []int{0, 1, 2}},
		{[]int{126, 125, 126}, []int{2, 1, 0}},
		{[]int{127, 127, 0, 127, 127}, []int{1, 0, 2, 4, 3}},
		{[]int{127, 127, 1, 126, 126}, []int{3, 4, 2, 1, 0}},
		{[]int{2, 2, 1, 1, 0, 0, 125, 125, 126, 126, 127, 127}, []int{3, 2, 0, 1, 4, 5, 8, 9, 11, 10, 7, 6}},
	} {
		hold(t, x.levels, x.want)
	}
}

// text is levels and their order, each written out as figures.
type text struct{ levels, want string }

// holdTexts holds the orders of levels, and of these raised.
func holdTexts(t *testing.T, texts []text) {
	t.Helper()
	for _, x := range texts {
		holdRaised(t, listed(x.levels), listed(x.want))
	}
}

// P14.1: levels that rise one by one, that fall, that rise and fall again, and that fall and rise again.
func TestSlopes(t *testing.T) {
	holdTexts(t, []text{
		{"01", "01"}, {"012", "021"}, {"0123", "0231"}, {"01234", "02431"}, {"0123456789", "0246897531"},
		{"10", "01"}, {"210", "102"}, {"3210", "2013"}, {"43210", "31024"}, {"9876543210", "8642013579"},
		{"010", "012"}, {"0110", "0213"}, {"01210", "03214"}, {"012210", "042315"}, {"0123210", "0523416"}, {"01233210", "06243517"}, {"012343210", "072543618"},
		{"101", "012"}, {"1001", "0123"}, {"2112", "3210"}, {"21012", "10243"}, {"210012", "102354"}, {"3210123", "2013564"}, {"321123", "453201"}, {"432101234", "310246875"},
		{"010101", "012345"}, {"121212", "543210"}, {"012012", "021354"}, {"021021", "021354"}, {"123123", "453120"},
	})
}

// P14.1: all levels, one by one: what is on even ones goes on from the left, what is on odd ones from the right.
func TestAllLevels(t *testing.T) {
	hold(t, up(0, most+1), append(everySecond(0, 126), turned(everySecond(1, 127))...))
	hold(t, down(most+1, 0), append(turned(everySecond(0, 126)), everySecond(1, 127)...))
	var left, right []int
	for level := range most {
		near, far := level, 2*most-level
		if level%2 == 1 {
			near, far = far, near
		}
		left, right = append(left, near), append(right, far)
	}
	hold(t, append(up(0, most), down(most+1, 0)...), slices.Concat(left, []int{most}, turned(right)))
}

// P14.1: stretches of one level within stretches of deeper and of less deep ones.
func TestStretches(t *testing.T) {
	holdTexts(t, []text{
		{"1110111", "2103654"}, {"2220222", "0123456"}, {"0001000", "0123456"}, {"0011100", "0143256"}, {"0022200", "0123456"}, {"0033300", "0143256"}, {"0044400", "0123456"},
		{"2221222", "4563012"}, {"1112111", "6543210"}, {"1122211", "6523410"}, {"1133311", "6543210"}, {"1144411", "6523410"}, {"3311133", "6543210"},
		{"3322233", "1023465"}, {"2233322", "0143256"}, {"4422244", "0123456"}, {"5522255", "1023465"},
		{"1331", "3210"}, {"1221", "3120"}, {"0330", "0213"}, {"0220", "0123"}, {"0550", "0213"},
		{"1021201", "0143256"}, {"2012102", "0143256"}, {"0112211022011", "0653421789acb"},
		// What goes up at once goes down in steps, and the other way round.
		{"03210", "03124"}, {"01230", "02314"}, {"04210", "03124"},
	})
	// The same stretches, far from one another in depth.
	hold(t, slices.Concat(row(2, 0), row(3, 127), row(2, 0)), listed("0143256"))
	hold(t, slices.Concat(row(2, 127), row(3, 0), row(2, 127)), listed("1023465"))
	hold(t, slices.Concat(row(2, 1), row(3, 126), row(2, 1)), listed("6523410"))
	hold(t, slices.Concat(row(2, 126), row(3, 1), row(2, 126)), listed("5643201"))
}

// P14.1: places that are turned round together, beside one another behind an earlier turn alone.
func TestEarlierTurns(t *testing.T) {
	holdTexts(t, []text{
		{"231", "201"}, {"132", "120"}, {"2331", "3021"}, {"1332", "2130"}, {"3231", "3012"}, {"1323", "1230"},
		{"34231", "41023"}, {"13243", "12430"}, {"0233120", "0541326"}, {"4342434", "2103654"},
	})
}

// P14.1: all short lists of levels, and long mixed ones, against two readings.
func TestAllShort(t *testing.T) {
	eachList(func(levels []int) {
		want := read(levels)
		if !slices.Equal(counted(levels), want) {
			t.Fatalf("%v: read as %v and as %v", levels, want, counted(levels))
		}
		hold(t, levels, want)
	})
}

// P14.1: levels below 0 and above 127 at the beginning, in the middle and at the end, alone and among others, are wrong in Order and in Apply.
func TestNoLevel(t *testing.T) {
	for _, wrong := range noLevels {
		refused(t, []int{wrong})
		for _, right := range [][]int{{0}, {1}, {127}, {0, 0}, edges, turned(edges), {1, 2, 2, 1}, row(9, 126)} {
			for at := range len(right) + 1 {
				refused(t, slices.Insert(slices.Clone(right), at, wrong))
			}
		}
		for _, other := range []int{-1, 128, wrong} {
			refused(t, []int{wrong, other})
			refused(t, []int{other, 0, 1, wrong})
			refused(t, []int{5, other, wrong, 5})
		}
		long := row(3000, 1)
		for _, at := range []int{0, 1, 1500, 2998, 2999} {
			long[at] = wrong
			refused(t, long)
			long[at] = 1
		}
	}
	refused(t, noLevels)
}

// P14.1: where the places of orders are, written out.
func TestBack(t *testing.T) {
	for _, x := range []struct{ order, want string }{
		{"01", "01"}, {"10", "10"}, {"012", "012"}, {"210", "210"}, {"120", "201"}, {"201", "120"}, {"021", "021"}, {"102", "102"},
		{"0534216", "0542316"}, {"31024", "21304"}, {"41023", "21340"}, {"0246897531", "0918273645"},
	} {
		holdBack(t, listed(x.order), listed(x.want))
	}
}

// P14.1: Back of all short lists, right ones and wrong ones: that have a number twice, that lack one, that have one below 0, the length or one beyond.
func TestBackAllShort(t *testing.T) {
	for n := range 7 {
		each(up(-1, n+2), n, func(l []int) {
			switch {
			case len(l) != n:
			case slices.Equal(slices.Sorted(slices.Values(l)), up(0, n)):
				holdBack(t, l, found(l))
				holdBack(t, found(l), l)
			default:
				noOrder(t, l)
			}
		})
	}
}

// P14.1, P1: lists that are no order, with numbers of all kinds at each place.
func TestNoOrder(t *testing.T) {
	for _, order := range [][]int{{0}, {0, 1}, {1, 0}, {2, 0, 1}, listed("0534216"), up(0, 40), down(40, 0)} {
		n := len(order)
		for at, was := range order {
			// It lacks one, and has another one twice, or one that is no place.
			for _, other := range slices.Concat(up(-n-1, 2*n+2), noLevels) {
				l := slices.Clone(order)
				l[at] = other
				if other != was {
					noOrder(t, l)
				}
			}
			// It has one more, that is there already, or none is there.
			noOrder(t, slices.Insert(slices.Clone(order), at, was))
			noOrder(t, slices.Insert(slices.Clone(order), at, n+1))
			noOrder(t, slices.Insert(slices.Clone(order), at, -1))
			// It has one less, that is not the last one.
			if was < n-1 {
				noOrder(t, slices.Delete(slices.Clone(order), at, at+1))
			}
		}
	}
	noOrder(t, noLevels)
	for n := 2; n < 300; n++ {
		noOrder(t, row(n, 0))
		noOrder(t, row(n, n-1))
		noOrder(t, up(1, n+1))
		noOrder(t, up(-1, n-1))
		noOrder(t, append(up(0, n-1), n))
		noOrder(t, append(up(0, n-1), n-2))
	}
}

// P14.1: Back of what Order answers, and of what Apply does, tells where each place is; Back of Back is the order itself.
func TestBackOfBack(t *testing.T) {
	eachList(func(levels []int) {
		for _, reversed := range []bool{false, true} {
			order, e := reorder.Apply(levels, reversed)
			if e != api.OK {
				t.Fatal(levels, e)
			}
			holdBack(t, order, found(order))
			holdBack(t, found(order), order)
		}
	})
	for _, n := range []int{7, 100, 1009} {
		for step := 1; step < n; step += 3 {
			var order []int
			for i := range n {
				order = append(order, i*step%n)
			}
			if n == 100 && (step%2 == 0 || step%5 == 0) {
				// Steps that have a part with the length in common come back too early.
				noOrder(t, order)
				continue
			}
			holdBack(t, order, found(order))
			holdBack(t, found(order), order)
		}
	}
}

// P14.1: of a line that is reversed, the order is that of levels that are all deeper by one; where these are wrong, it is still right.
func TestReversed(t *testing.T) {
	for _, x := range []struct{ levels, want string }{
		{"0", "0"}, {"1", "0"}, {"00", "10"}, {"11", "01"}, {"012", "120"}, {"0112210", "6124350"}, {"010", "210"}, {"1221", "0213"},
	} {
		l, e := reorder.Apply(listed(x.levels), true)
		if e != api.OK || !slices.Equal(l, listed(x.want)) {
			t.Fatal(x, l, e)
		}
	}
	for _, levels := range [][]int{{127}, {127, 127}, {0, 127, 127}, {126, 127, 127}} {
		hold(t, levels, read(levels))
		refused(t, raised(levels, 1))
	}
	eachList(func(levels []int) {
		if len(levels) == 0 || slices.Max(levels) == most {
			return
		}
		one, _ := reorder.Apply(levels, true)
		two, e := reorder.Order(raised(levels, 1))
		if e != api.OK || !slices.Equal(one, two) {
			t.Fatalf("%v: %v, raised %v", levels, one, two)
		}
	})
}

// P14.1: scalars of odd levels are mirrored, those of even ones are not; of a reversed line the other way round.
func TestMirrors(t *testing.T) {
	for _, x := range []struct {
		level int
		odd   bool
	}{
		{0, false}, {1, true}, {2, false}, {3, true}, {61, true}, {62, false}, {124, false}, {125, true}, {126, false}, {127, true},
	} {
		holdMirrors(t, x.level, x.odd)
	}
	for level := 0; level <= most; level += 2 {
		holdMirrors(t, level, false)
		holdMirrors(t, level+1, true)
	}
	// Numbers that are no level are odd or even, too.
	for _, even := range []int{math.MinInt, math.MinInt + 2, -1 << 32, math.MinInt32, -256, -128, -4, -2, 128, 130, 254, 256, 1 << 16, 1 << 32, math.MaxInt - 1} {
		holdMirrors(t, even, false)
		holdMirrors(t, even+1, true)
	}
}

// holdMirrors holds whether scalars of a level are mirrored.
func holdMirrors(t *testing.T, level int, odd bool) {
	t.Helper()
	if reorder.Mirrors(level, false) != odd || reorder.Mirrors(level, true) == odd {
		t.Errorf("%d: %v, reversed %v", level, reorder.Mirrors(level, false), reorder.Mirrors(level, true))
	}
}

// P14.2: an order has each place once, at all short lists of levels and long mixed ones, reversed and not.
func TestEachOnce(t *testing.T) {
	once := func(levels []int) {
		for _, reversed := range []bool{false, true} {
			order, e := reorder.Apply(levels, reversed)
			if e != api.OK || len(order) != len(levels) {
				t.Fatalf("%v: %v, %v", levels, order, e)
			}
			has := make([]int, len(levels))
			for _, place := range order {
				if place < 0 || place >= len(levels) {
					t.Fatalf("%v: %d is no place", levels, place)
				}
				has[place]++
			}
			for place, n := range has {
				if n != 1 {
					t.Fatalf("%v: %d is there %d times", levels, place, n)
				}
			}
		}
	}
	eachList(once)
	for _, n := range []int{2000, 2001, 65537} {
		once(mixed(edges, n, 5))
		once(mixed(up(0, most+1), n, 6))
		once(walked(n, 7, 0, most))
		once(row(n, most))
	}
}

// P14.3: two more on all levels, as often as they stay up to 127, change nothing.
func TestTwoMore(t *testing.T) {
	same := func(levels []int) {
		if len(levels) == 0 {
			return
		}
		order, e := reorder.Order(levels)
		if e != api.OK {
			t.Fatal(levels, e)
		}
		for more := 2; slices.Max(levels)+more <= most; more += 2 {
			hold(t, raised(levels, more), order)
		}
	}
	each([]int{0, 1, 2}, 6, same)
	each([]int{0, 1, 2, 3, 4}, 4, same)
	each([]int{0, 1, 124, 125}, 6, same)
	eachLong(same)
	same(mixed([]int{0, 1, 2, 60, 61, 100}, 3000, 3))
}

// P14.1: levels of lines that are made of a paragraph's, as deep as scalars may be nested, are right.
func TestLines(t *testing.T) {
	for base := range 2 {
		var l []api.Class
		for level := base; level < api.MaxLevel; level++ {
			l = append(l, []api.Class{api.RLE, api.LRE}[level%2], api.EN, api.L, api.R)
		}
		levels, e := resolve.Paragraph(l, nil, base)
		if e != api.OK || slices.Max(levels) != api.MaxLevel+1 {
			t.Fatal(levels, e)
		}
		refused(t, levels)
		line, e := resolve.Line(l, levels, [3]int{0, len(l), base})
		if e != api.OK {
			t.Fatal(e)
		}
		hold(t, line, read(line))
	}
}

// P14.1, P1: long lists, gone through at once.
func TestLong(t *testing.T) {
	const n = 100000
	hold(t, row(n, 0), up(0, n))
	hold(t, row(n, 1), down(n, 0))
	hold(t, row(n, 126), up(0, n))
	hold(t, row(n, 127), down(n, 0))
	hold(t, slices.Concat(row(n, 0), row(n, 1), row(n, 2), row(n, 0)), slices.Concat(up(0, n), up(2*n, 3*n), down(2*n, n), up(3*n, 4*n)))
	hold(t, slices.Repeat([]int{0, 127}, n), up(0, 2*n))
	hold(t, slices.Repeat([]int{127, 1}, n), down(2*n, 0))
	for _, levels := range [][]int{mixed(edges, n, 3), mixed(up(0, most+1), n, 4), walked(n, 5, 0, most), walked(n, 6, 0, 3), slices.Repeat(up(0, most+1), n/most), slices.Repeat(down(most+1, 0), n/most)} {
		want := read(levels)
		hold(t, levels, want)
		back, e := reorder.Back(want)
		if e != api.OK {
			t.Fatal(e)
		}
		holdBack(t, back, want)
	}
	holdBack(t, up(0, n), up(0, n))
	holdBack(t, down(n, 0), down(n, 0))
	for _, at := range []int{0, n / 2, n - 1} {
		for _, wrong := range []int{-1, 128} {
			levels := row(n, 3)
			levels[at] = wrong
			if l, e := reorder.Order(levels); e != api.ErrLevel || len(l) != 0 {
				t.Error(at, wrong, e)
			}
		}
		for _, wrong := range []int{-1, n, (at + 1) % n} {
			order := up(0, n)
			order[at] = wrong
			if l, e := reorder.Back(order); e != api.ErrArg || len(l) != 0 {
				t.Error(at, wrong, e)
			}
		}
	}
}

// P2: what is handed in is not written into; what lies behind its length is neither read nor written.
func TestGivenStays(t *testing.T) {
	levels := listed("0123210112344321020213")
	for cut := range len(levels) + 1 {
		want := read(levels[:cut])
		for _, behind := range [][]int{nil, {0}, {1}, {cut}, {5, 5, 5}, {-1}, {128}, row(50, 2), row(50, -7)} {
			more := append(slices.Clone(levels[:cut]), behind...)
			kept := slices.Clone(more)
			hold(t, more[:cut], want)
			if !slices.Equal(more, kept) {
				t.Fatalf("%v, behind it %v: what is handed in is written into", levels[:cut], behind)
			}
			order := append(slices.Clone(want), behind...)
			kept = slices.Clone(order)
			holdBack(t, order[:cut], found(want))
			if !slices.Equal(order, kept) {
				t.Fatalf("%v, behind it %v: what is handed in is written into", want, behind)
			}
		}
		if cut > 0 {
			// What would make an order of it, or right levels, lies behind it.
			refused(t, append(raised(levels[:cut], -1), levels...)[:cut])
			noOrder(t, append(raised(want, 1), want...)[:cut])
		}
	}
}

// P2: what is answered shares no memory with what was handed in, or with another answer.
func TestNewMemory(t *testing.T) {
	for _, levels := range [][]int{{}, {0}, {1}, row(20, 0), row(20, 1), edges, listed("0112210"), mixed(edges, 500, 9)} {
		l, want := slices.Clone(levels), read(levels)
		one, _ := reorder.Order(l)
		two, _ := reorder.Order(l)
		plain, _ := reorder.Apply(l, false)
		round, _ := reorder.Apply(l, true)
		back, _ := reorder.Back(two)
		again, _ := reorder.Back(back)
		all := [][]int{one, two, plain, round, back, again}
		right := [][]int{want, want, want, turned(want), found(want), want}
		for i, x := range all {
			for k := range x[:cap(x)] {
				x[:cap(x)][k] = -7
			}
			for k := i + 1; k < len(all); k++ {
				if !slices.Equal(all[k], right[k]) {
					t.Fatalf("%v: memory is shared, of %d and %d", levels, i, k)
				}
			}
			if !slices.Equal(l, levels) {
				t.Fatalf("%v: memory is shared with what was handed in", levels)
			}
		}
		hold(t, l, want)
		holdBack(t, want, found(want))
	}
}

// P2: lists that are changed between two calls are read afresh; a call behind another one, or behind an error, answers as if there had been none.
func TestChanged(t *testing.T) {
	l := listed("0110")
	first, e := reorder.Order(l)
	if e != api.OK || !slices.Equal(first, listed("0213")) {
		t.Fatal(first, e)
	}
	l[0] = 1
	hold(t, l, listed("2103"))
	l[3] = 128
	refused(t, l)
	l[3] = 2
	hold(t, l, listed("3210"))
	hold(t, l[:2], listed("10"))
	refused(t, []int{-1})
	hold(t, l, listed("3210"))
	back, e := reorder.Back(first)
	if e != api.OK || !slices.Equal(back, listed("0213")) {
		t.Fatal(back, e)
	}
	first[0], first[3] = 3, 0
	holdBack(t, first, listed("3210"))
	first[0] = 0
	noOrder(t, first)
	first[3] = 3
	holdBack(t, first, listed("0213"))
	holdMirrors(t, 1, true)
	hold(t, l, listed("3210"))
	if !slices.Equal(back, listed("0213")) {
		t.Error(back)
	}
}
