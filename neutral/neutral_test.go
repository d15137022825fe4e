package neutral_test

import (
	"math"
	"slices"
	"strings"
	"testing"

	"frisket/api"
	"frisket/neutral"
)

// letters has one for each class, in the order of their numbers: e, o, E and O for LRE, LRO, RLE and RLO, a point for PDF, and brackets for LRI, RLI, FSI and PDI.
const letters = "LRA1+#2,'0$s_?eoEO.([{)"

// other is the letter of a number that is no class.
const other = '~'

// The letters of neutral places, of those that have a side, and of those that are neither.
const neutrals, sided, sideless = "$s_?([{)", "LR12", "A+#,'0eoEO.~"

// evens and odds are levels that may be, all of them.
var evens, odds = levelsFrom(0), levelsFrom(1)

// allSides is the first and the last side, as letters: all that may be.
var allSides = []string{"LL", "LR", "RL", "RR"}

// levelsFrom is each second level that may be.
func levelsFrom(n int) []int {
	var l []int
	for ; n <= 125; n += 2 {
		l = append(l, n)
	}
	return l
}

// noLevels is numbers that may not be a sequence's level.
var noLevels = []int{math.MinInt, math.MinInt + 1, -1 << 32, -1<<32 + 1, math.MinInt32, -1 << 16, -257, -256, -255, -128, -127, -126, -125, -124, -3, -2, -1, 126, 127, 128, 129, 130, 200, 254, 255, 256, 257, 380, 381, 1 << 16, 1<<16 + 1, math.MaxInt32, 1 << 32, 1<<32 + 1, 1<<32 + 125, math.MaxInt - 1, math.MaxInt}

// noClasses is numbers that are no class: great ones, those just beyond classes, and those of which some bits are a class's.
func noClasses() []api.Class {
	l := []api.Class{math.MinInt, math.MinInt + 1, math.MinInt32, -3, -2, -1, 23, 24, 25, 31, 99, math.MaxInt32, math.MaxInt - 1, math.MaxInt}
	for _, far := range []int{-1 << 32, -1 << 16, -256, -128, -64, -32, 32, 64, 128, 256, 1 << 16, 1 << 32} {
		for c := range len(letters) {
			l = append(l, api.Class(far+c))
		}
	}
	return l
}

// with is the classes of a text, with a number for each letter that is no class's.
func with(s string, n api.Class) []api.Class {
	l := make([]api.Class, len(s))
	for i := range s {
		l[i] = n
		if s[i] != other {
			l[i] = api.Class(strings.IndexByte(letters, s[i]))
		}
	}
	return l
}

// classes is those of letters.
func classes(s string) []api.Class {
	return with(s, 99)
}

// seq is a sequence of a level, with the sides of two letters.
func seq(level int, sides string) neutral.Seq {
	l := classes(sides)
	return neutral.Seq{Level: level, First: l[0], Last: l[1]}
}

// many is a text, several times over.
func many(n int, s string) string {
	return strings.Repeat(s, n)
}

// each hands out all texts of some letters, up to a length.
func each(of string, most int, do func(string)) {
	var grow func(b []byte)
	grow = func(b []byte) {
		do(string(b))
		if len(b) == most {
			return
		}
		for i := range of {
			grow(append(b, of[i]))
		}
	}
	grow(make([]byte, 0, most))
}

// mixed is a long text that a rule of its own mixes.
func mixed(of string, n, at int) string {
	b := make([]byte, n)
	for i := range b {
		at = at * 75 % 65537
		b[i] = of[at%len(of)]
	}
	return string(b)
}

// eachMixed hands out texts of all classes, and of numbers that are none: short ones, and long ones.
func eachMixed(do func(string)) {
	each(letters+string(other), 3, do)
	each(neutrals, 4, do)
	each("LR12?_A", 5, do)
	for _, of := range []string{letters + string(other), sided + neutrals, neutrals, "LR?", "12?_$", "L1" + neutrals, "R2~" + neutrals, "L?????????", "RA_?s$([{)"} {
		for at := range 40 {
			do(mixed(of, 20+9*at, at+1))
		}
	}
}

// turned is a list, turned round.
func turned(l []api.Class) []api.Class {
	var back []api.Class
	for i := range l {
		back = append(back, l[len(l)-1-i])
	}
	return back
}

// read is what a text is settled to: each neutral place by itself, between the texts ahead of it and behind it.
func read(s string, level int, sides string) string {
	b := []byte(s)
	for i := range s {
		if strings.IndexByte(neutrals, s[i]) < 0 {
			continue
		}
		ahead, behind := strings.TrimRight(sides[:1]+s[:i], neutrals), strings.TrimLeft(s[i+1:]+sides[1:], neutrals)
		switch ahead[len(ahead)-1:] + behind[:1] {
		case "LL":
			b[i] = 'L'
		case "RR", "R1", "R2", "1R", "11", "12", "2R", "21", "22":
			b[i] = 'R'
		default:
			b[i] = "LR"[level&1]
		}
	}
	return string(b)
}

// holdList holds what a list is settled to.
func holdList(t *testing.T, l []api.Class, s neutral.Seq, want []api.Class) {
	t.Helper()
	got, e := neutral.Settle(l, s)
	if e != api.OK || !slices.Equal(got, want) {
		t.Fatalf("%v of %v: %v, %v, want %v", l, s, got, e, want)
	}
}

// hold holds what a text is settled to.
func hold(t *testing.T, s string, level int, sides, want string) {
	t.Helper()
	holdList(t, classes(s), seq(level, sides), classes(want))
}

// holdRead holds what a text is settled to, as it is read another way, on both sorts of levels, with all sides.
func holdRead(t *testing.T, s string) {
	t.Helper()
	for level := range 2 {
		for _, sides := range allSides {
			hold(t, s, level, sides, read(s, level, sides))
		}
	}
}

// change is a text, and what it is settled to on even levels, and on odd ones.
type change struct{ text, even, odd string }

// holdChanges holds what texts are settled to, written out, with some sides.
func holdChanges(t *testing.T, sides string, changes []change) {
	t.Helper()
	for _, x := range changes {
		for _, level := range []int{0, 2, 124} {
			hold(t, x.text, level, sides, x.even)
		}
		for _, level := range []int{1, 3, 125} {
			hold(t, x.text, level, sides, x.odd)
		}
	}
}

// holdAnySides holds what texts are settled to, written out, whatever the sides are.
func holdAnySides(t *testing.T, changes []change) {
	t.Helper()
	for _, sides := range allSides {
		holdChanges(t, sides, changes)
	}
}

// holdLevels holds the levels of a list.
func holdLevels(t *testing.T, l []api.Class, level int, want []int) {
	t.Helper()
	got, e := neutral.Raise(l, level)
	if e != api.OK || !slices.Equal(got, want) {
		t.Fatalf("%v on %d: %v, %v, want %v", l, level, got, e, want)
	}
}

// P12.1: the numbers of the classes are those of the letters, and what is wrong has its name.
func TestNumbers(t *testing.T) {
	want := []api.Class{api.L, api.R, api.AL, api.EN, api.ES, api.ET, api.AN, api.CS, api.NSM, api.BN, api.B, api.S, api.WS, api.ON, api.LRE, api.LRO, api.RLE, api.RLO, api.PDF, api.LRI, api.RLI, api.FSI, api.PDI}
	if l := classes(letters); !slices.Equal(l, want) {
		t.Fatal(l)
	}
	if l := classes(neutrals); !slices.Equal(l, []api.Class{api.B, api.S, api.WS, api.ON, api.LRI, api.RLI, api.FSI, api.PDI}) {
		t.Fatal(l)
	}
	if len(neutrals+sided+sideless) != len(letters)+1 || len(evens)+len(odds) != api.MaxLevel+1 || api.ErrArg != 1 {
		t.Fatal(len(evens), len(odds), api.ErrArg)
	}
	if s := seq(3, "LR"); s != (neutral.Seq{Level: 3, First: api.L, Last: api.R}) {
		t.Fatal(s)
	}
}

// P12.1: no classes, and nil.
func TestNothing(t *testing.T) {
	for _, l := range [][]api.Class{nil, {}, classes("L?R")[:0]} {
		for level := range api.MaxLevel + 1 {
			for _, sides := range allSides {
				holdList(t, l, seq(level, sides), nil)
			}
			holdLevels(t, l, level, nil)
		}
	}
}

// P12.1: each neutral class, between all sides, alone and several beside one another; each other one stays.
func TestEachClass(t *testing.T) {
	for c := range len(letters) {
		x := letters[c : c+1]
		for n := 1; n <= 4; n++ {
			row := many(n, x)
			left, right := row, row
			if strings.Contains(neutrals, x) {
				left, right = many(n, "L"), many(n, "R")
			}
			holdChanges(t, "LL", []change{{row, left, left}})
			holdChanges(t, "RR", []change{{row, right, right}})
			holdChanges(t, "LR", []change{{row, left, right}})
			holdChanges(t, "RL", []change{{row, left, right}})
			holdAnySides(t, []change{
				{"L" + row + "L", "L" + left + "L", "L" + left + "L"},
				{"R" + row + "R", "R" + right + "R", "R" + right + "R"},
				{"L" + row + "R", "L" + left + "R", "L" + right + "R"},
				{"R" + row + "L", "R" + left + "L", "R" + right + "L"},
			})
		}
	}
}

// P12.1: one neutral place alone, in the middle, at the beginning and at the end.
func TestOne(t *testing.T) {
	holdAnySides(t, []change{
		{"L?L", "LLL", "LLL"}, {"R?R", "RRR", "RRR"}, {"L?R", "LLR", "LRR"}, {"R?L", "RLL", "RRL"},
		{"LL?LL", "LLLLL", "LLLLL"}, {"RR?RR", "RRRRR", "RRRRR"}, {"RL?LR", "RLLLR", "RLLLR"}, {"LR?RL", "LRRRL", "LRRRL"}, {"RL?RL", "RLLRL", "RLRRL"}, {"LR?LR", "LRLLR", "LRRLR"},
		// Several alone: each one for itself.
		{"L?R?L", "LLRLL", "LRRRL"}, {"R?R?L", "RRRLL", "RRRRL"}, {"L?L?R", "LLLLR", "LLLRR"}, {"R?L_L$R", "RLLLLLR", "RRLLLRR"}, {"L(R[R{L)L", "LLRRRLLLL", "LRRRRRLLL"},
	})
	holdChanges(t, "LL", []change{{"?", "L", "L"}, {"?L", "LL", "LL"}, {"L?", "LL", "LL"}, {"?R", "LR", "RR"}, {"R?", "RL", "RR"}, {"?R?", "LRL", "RRR"}, {"?L?", "LLL", "LLL"}})
	holdChanges(t, "RR", []change{{"?", "R", "R"}, {"?R", "RR", "RR"}, {"R?", "RR", "RR"}, {"?L", "LL", "RL"}, {"L?", "LL", "LR"}, {"?L?", "LLL", "RLR"}, {"?R?", "RRR", "RRR"}})
	holdChanges(t, "LR", []change{{"?", "L", "R"}, {"?L", "LL", "LL"}, {"L?", "LL", "LR"}, {"?R", "LR", "RR"}, {"R?", "RR", "RR"}, {"?L?", "LLL", "LLR"}, {"?R?", "LRR", "RRR"}})
	holdChanges(t, "RL", []change{{"?", "L", "R"}, {"?L", "LL", "RL"}, {"L?", "LL", "LL"}, {"?R", "RR", "RR"}, {"R?", "RL", "RR"}, {"?L?", "LLL", "RLL"}, {"?R?", "RRL", "RRR"}})
}

// P12.1: neutral places beside one another, of one class and of several, as many as may be, become one side.
func TestStretches(t *testing.T) {
	holdAnySides(t, []change{
		{"L??L", "LLLL", "LLLL"}, {"L_?R", "LLLR", "LRRR"}, {"R$s_?L", "RLLLLL", "RRRRRL"}, {"R([{)R", "RRRRRR", "RRRRRR"}, {"L)?(L", "LLLLL", "LLLLL"},
		{"L_?(R)_?R", "LLLLRRRRR", "LRRRRRRRR"}, {"R??L__R$$R", "RLLLLLRRRR", "RRRLRRRRRR"}, {"R?_R_?R?_?L", "RRRRRRRLLLL", "RRRRRRRRRRL"},
		{"L" + neutrals + "L", many(10, "L"), many(10, "L")}, {"R" + neutrals + "R", many(10, "R"), many(10, "R")},
		{"L" + neutrals + "R", many(9, "L") + "R", "L" + many(9, "R")}, {"R" + neutrals + "L", "R" + many(9, "L"), many(9, "R") + "L"},
	})
	for n := range 300 {
		for _, row := range []string{many(n, "?"), many(n, "_"), mixed(neutrals, n, n+1)} {
			l, r := many(n, "L"), many(n, "R")
			holdChanges(t, "LR", []change{
				{row, l, r}, {row + "L", l + "L", l + "L"}, {"R" + row, "R" + r, "R" + r}, {row + "R", l + "R", r + "R"}, {"L" + row, "L" + l, "L" + r},
				{"L" + row + "L", "L" + l + "L", "L" + l + "L"}, {"R" + row + "R", "R" + r + "R", "R" + r + "R"}, {"L" + row + "R", "L" + l + "R", "L" + r + "R"}, {"R" + row + "L", "R" + l + "L", "R" + r + "L"},
			})
		}
	}
}

// P12.1: all places neutral: the first side stands ahead, the last one behind.
func TestAllNeutral(t *testing.T) {
	each(neutrals, 4, func(s string) {
		l, r := many(len(s), "L"), many(len(s), "R")
		for level := range 2 {
			hold(t, s, level, "LL", l)
			hold(t, s, level, "RR", r)
			hold(t, s, level, "LR", []string{l, r}[level])
			hold(t, s, level, "RL", []string{l, r}[level])
		}
	})
}

// P12.1: EN and AN are R, ahead and behind, beside each other and beside R; they themselves stay.
func TestNumbersAreRight(t *testing.T) {
	holdAnySides(t, []change{
		{"1?1", "1R1", "1R1"}, {"2?2", "2R2", "2R2"}, {"1?2", "1R2", "1R2"}, {"2?1", "2R1", "2R1"}, {"1?R", "1RR", "1RR"}, {"2?R", "2RR", "2RR"}, {"R?1", "RR1", "RR1"}, {"R?2", "RR2", "RR2"},
		{"1?L", "1LL", "1RL"}, {"2?L", "2LL", "2RL"}, {"L?1", "LL1", "LR1"}, {"L?2", "LL2", "LR2"},
		{"1_?2", "1RR2", "1RR2"}, {"2$s1", "2RR1", "2RR1"}, {"1([{)L", "1LLLLL", "1RRRRL"}, {"L??2??L", "LLL2LLL", "LRR2RRL"}, {"R?1?2?R", "RR1R2RR", "RR1R2RR"}, {"L?L1?L", "LLL1LL", "LLL1RL"},
		{"L1?L", "L1LL", "L1RL"}, {"L?2L", "LL2L", "LR2L"}, {"R12?21R", "R12R21R", "R12R21R"},
	})
	holdChanges(t, "RR", []change{{"1?", "1R", "1R"}, {"?1", "R1", "R1"}, {"2_?", "2RR", "2RR"}, {"$?2", "RR2", "RR2"}, {"?1?2?", "R1R2R", "R1R2R"}})
	holdChanges(t, "LL", []change{{"1?", "1L", "1R"}, {"?1", "L1", "R1"}, {"2_?", "2LL", "2RR"}, {"$?2", "LL2", "RR2"}, {"?1?2?", "L1R2L", "R1R2R"}})
	holdChanges(t, "LR", []change{{"1?", "1R", "1R"}, {"?1", "L1", "R1"}, {"2_?", "2RR", "2RR"}, {"$?2", "LL2", "RR2"}})
	holdChanges(t, "RL", []change{{"1?", "1L", "1R"}, {"?1", "R1", "R1"}, {"2_?", "2LL", "2RR"}, {"$?2", "RR2", "RR2"}})
}

// P12.1: the first side stands ahead at the beginning alone, the last one behind at the end alone.
func TestEnds(t *testing.T) {
	holdChanges(t, "LL", []change{{"??R??", "LLRLL", "RRRRR"}, {"??L??", "LLLLL", "LLLLL"}, {"?R?R?", "LRRRL", "RRRRR"}, {"?R?L?", "LRLLL", "RRRLL"}})
	holdChanges(t, "RR", []change{{"??L??", "LLLLL", "RRLRR"}, {"??R??", "RRRRR", "RRRRR"}, {"?L?L?", "LLLLL", "RLLLR"}, {"?R?L?", "RRLLL", "RRRLR"}})
	holdChanges(t, "LR", []change{{"??L??", "LLLLL", "LLLRR"}, {"??R??", "LLRRR", "RRRRR"}, {"?L?R?", "LLLRR", "LLRRR"}, {"?R?L?", "LRLLL", "RRRLR"}})
	holdChanges(t, "RL", []change{{"??L??", "LLLLL", "RRLLL"}, {"??R??", "RRRLL", "RRRRR"}, {"?L?R?", "LLLRL", "RLRRR"}, {"?R?L?", "RRLLL", "RRRLL"}})
	for _, sides := range []string{"LL", "RR"} {
		for n := 1; n < 9; n++ {
			row := many(n, sides[:1])
			holdChanges(t, sides, []change{{neutrals[:n-1] + "?", row, row}})
		}
	}
}

// P12.1: what is neither neutral, nor has a side, parts neutral places, and stays; beside it they become the level's side.
func TestSideless(t *testing.T) {
	numbers := []api.Class{99}
	for _, x := range sideless {
		x := string(x)
		if x == string(other) {
			numbers = noClasses()
		}
		for _, number := range numbers {
			for _, sides := range allSides {
				for _, c := range []change{
					// Ahead, behind, and on both sides.
					{x + "?L", x + "LL", x + "RL"}, {x + "?R", x + "LR", x + "RR"}, {x + "_?1", x + "LL1", x + "RR1"}, {x + "?2", x + "L2", x + "R2"},
					{"L?" + x, "LL" + x, "LR" + x}, {"R?" + x, "RL" + x, "RR" + x}, {"1?_" + x, "1LL" + x, "1RR" + x}, {"2?" + x, "2L" + x, "2R" + x},
					{x + "?" + x, x + "L" + x, x + "R" + x}, {x + "_?s$([{)" + x, x + many(8, "L") + x, x + many(8, "R") + x},
					// Between neutral places: it parts them.
					{"L?" + x + "?L", "LL" + x + "LL", "LR" + x + "RL"}, {"R?" + x + "?R", "RL" + x + "LR", "RR" + x + "RR"}, {"L" + x + "?L", "L" + x + "LL", "L" + x + "RL"}, {"R?" + x + "R", "RL" + x + "R", "RR" + x + "R"},
					// Beside the first side, and the last one.
					{"?" + x + "?", "L" + x + "L", "R" + x + "R"}, {x + "?", x + "L", x + "R"}, {"?" + x, "L" + x, "R" + x}, {x, x, x},
					// Beyond what has a side it does nothing.
					{x + "L?L" + x, x + "LLL" + x, x + "LLL" + x}, {x + "R?2" + x, x + "RR2" + x, x + "RR2" + x},
				} {
					holdList(t, with(c.text, number), seq(0, sides), with(c.even, number))
					holdList(t, with(c.text, number), seq(1, sides), with(c.odd, number))
				}
			}
		}
	}
	// Two of them, that are alike and that are not.
	each(sideless, 2, func(s string) {
		if len(s) == 2 {
			holdAnySides(t, []change{{s[:1] + "?_" + s[1:], s[:1] + "LL" + s[1:], s[:1] + "RR" + s[1:]}})
		}
	})
}

// P12.1: places that are not neutral stay what they are, wherever they stand.
func TestOthersStay(t *testing.T) {
	each(sided+sideless, 3, func(s string) {
		holdAnySides(t, []change{{s, s, s}})
	})
	for _, number := range noClasses() {
		l := with("~L~R~", number)
		for level := range 2 {
			for _, sides := range allSides {
				holdList(t, l, seq(level, sides), l)
			}
		}
	}
	eachMixed(func(s string) {
		l, e := neutral.Settle(classes(s), seq(1, "LR"))
		if e != api.OK || len(l) != len(s) {
			t.Fatal(s, l, e)
		}
		for i, c := range classes(s) {
			if !strings.Contains(neutrals, s[i:i+1]) && l[i] != c {
				t.Fatalf("%q: %d at %d", s, l[i], i)
			}
		}
	})
}

// P12.1: each level that may be is right, and is odd or even.
func TestLevels(t *testing.T) {
	for k, all := range [][]int{evens, odds} {
		for _, level := range all {
			for _, sides := range allSides {
				hold(t, "L?R?~?L?L", level, sides, []string{"LLRL~LLLL", "LRRR~RLLL"}[k])
			}
			hold(t, "?", level, "LR", []string{"L", "R"}[k])
			hold(t, "?", level, "RL", []string{"L", "R"}[k])
			hold(t, "?", level, "LL", "L")
			hold(t, "?", level, "RR", "R")
		}
	}
}

// P12.1: all texts up to some length, on both sorts of levels, with all sides, as read another way; and long ones.
func TestAllShort(t *testing.T) {
	each(letters+string(other), 3, func(s string) { holdRead(t, s) })
	each("LR12?_A", 5, func(s string) { holdRead(t, s) })
	each("LR?", 7, func(s string) { holdRead(t, s) })
	each("L?~", 7, func(s string) { holdRead(t, s) })
	each("R1($'", 5, func(s string) { holdRead(t, s) })
	eachMixed(func(s string) { holdRead(t, s) })
}

// P12.1, P1: long lists, gone through at once.
func TestLong(t *testing.T) {
	const n = 300000
	for _, x := range []struct {
		text  string
		level int
		sides string
		want  string
	}{
		{many(n, "?"), 0, "RR", many(n, "R")},
		{many(n, "?_"), 1, "LL", many(n, "LL")},
		{many(n, "$"), 124, "RL", many(n, "L")},
		{many(n, "(s"), 125, "LR", many(n, "RR")},
		{many(n, "?") + "L" + many(n, "_"), 1, "LR", many(n, "L") + "L" + many(n, "R")},
		{many(n, "L?"), 1, "LL", many(n, "LL")},
		{many(n, "1?"), 0, "RL", many(n-1, "1R") + "1L"},
		{many(n, "?A"), 1, "LL", many(n, "RA")},
		{"R" + many(n, "?") + "2", 0, "LL", "R" + many(n, "R") + "2"},
		{many(n, "L"), 1, "RR", many(n, "L")},
		{many(n, "~'"), 1, "RR", many(n, "~'")},
	} {
		l, e := neutral.Settle(classes(x.text), seq(x.level, x.sides))
		if e != api.OK || !slices.Equal(l, classes(x.want)) {
			t.Fatalf("%.20q and on, on level %d between %q: %v", x.text, x.level, x.sides, e)
		}
	}
	levels, e := neutral.Raise(classes(many(n, "LR12?")), 124)
	if e != api.OK || !slices.Equal(levels, slices.Repeat([]int{124, 125, 126, 126, 124}, n)) {
		t.Fatal(e)
	}
}

// refused holds that what is handed in to Settle is wrong.
func refused(t *testing.T, l []api.Class, s neutral.Seq) {
	t.Helper()
	kept := slices.Clone(l)
	if got, e := neutral.Settle(l, s); e != api.ErrArg || len(got) != 0 {
		t.Errorf("%v of %v: %v, %v", l, s, got, e)
	}
	if !slices.Equal(l, kept) {
		t.Errorf("%v of %v: with an error what is handed in is written into", kept, s)
	}
}

// P12.1, P1: levels below 0 and above 125, in both functions, whatever else is handed in.
func TestNoLevel(t *testing.T) {
	for _, level := range noLevels {
		for _, l := range [][]api.Class{nil, {}, classes("L"), classes("?"), classes("L?R"), classes("_1$2A~")} {
			for _, sides := range []string{"LL", "LR", "RL", "RR", "1R", "L?", "22"} {
				refused(t, l, seq(level, sides))
			}
			kept := slices.Clone(l)
			if got, e := neutral.Raise(l, level); e != api.ErrArg || len(got) != 0 || !slices.Equal(l, kept) {
				t.Errorf("%v on %d: %v, %v", kept, level, got, e)
			}
		}
	}
}

// P12.1, P1: sides that are neither L nor R: the first alone, the last alone, and both, whatever else is handed in.
func TestNoSide(t *testing.T) {
	wrong := noClasses()
	for c := api.AL; c <= api.PDI; c++ {
		wrong = append(wrong, c)
	}
	for _, side := range wrong {
		for _, l := range [][]api.Class{nil, {}, classes("L"), classes("?"), classes("R?L"), classes("L?R?"), classes("12A~")} {
			for _, level := range []int{0, 1, 124, 125} {
				for _, right := range []api.Class{api.L, api.R} {
					refused(t, l, neutral.Seq{Level: level, First: side, Last: right})
					refused(t, l, neutral.Seq{Level: level, First: right, Last: side})
				}
				refused(t, l, neutral.Seq{Level: level, First: side, Last: side})
				refused(t, l, neutral.Seq{Level: level, First: side, Last: api.ON})
				refused(t, l, neutral.Seq{Level: level, First: api.EN, Last: side})
			}
		}
	}
}

// P12.1: Raise, written out.
func TestRaise(t *testing.T) {
	for _, x := range []struct {
		text      string
		even, odd []int // on 0, and on 1
	}{
		{"L", []int{0}, []int{2}}, {"R", []int{1}, []int{1}}, {"1", []int{2}, []int{2}}, {"2", []int{2}, []int{2}}, {"?", []int{0}, []int{1}}, {"A", []int{0}, []int{1}}, {"~", []int{0}, []int{1}},
		{"LR12", []int{0, 1, 2, 2}, []int{2, 1, 2, 2}},
		{"RR1", []int{1, 1, 2}, []int{1, 1, 2}}, {"LL1", []int{0, 0, 2}, []int{2, 2, 2}},
		{letters, []int{0, 1, 0, 2, 0, 0, 2, 0, 0, 0, 0, 0, 0, 0, 0, 0, 0, 0, 0, 0, 0, 0, 0}, []int{2, 1, 1, 2, 1, 1, 2, 1, 1, 1, 1, 1, 1, 1, 1, 1, 1, 1, 1, 1, 1, 1, 1}},
	} {
		for _, level := range evens {
			holdLevels(t, classes(x.text), level, above(x.even, level))
		}
		for _, level := range odds {
			holdLevels(t, classes(x.text), level, above(x.odd, level-1))
		}
	}
	// At the end the levels go above what a level may be.
	holdLevels(t, classes("LR12?"), 124, []int{124, 125, 126, 126, 124})
	holdLevels(t, classes("LR12?"), 125, []int{126, 125, 126, 126, 125})
	holdLevels(t, classes("LR12?"), 0, []int{0, 1, 2, 2, 0})
	holdLevels(t, classes("LR12?"), 1, []int{2, 1, 2, 2, 1})
}

// above is numbers, each that much greater.
func above(l []int, more int) []int {
	var all []int
	for _, n := range l {
		all = append(all, n+more)
	}
	return all
}

// P12.1: numbers that are no class have the sequence's level.
func TestRaiseNoClass(t *testing.T) {
	for _, number := range noClasses() {
		for _, level := range []int{0, 1, 2, 61, 62, 124, 125} {
			holdLevels(t, []api.Class{number}, level, []int{level})
			holdLevels(t, []api.Class{number, api.R, number}, level, []int{level, level + 1 - level%2, level})
		}
	}
}

// P12.1: a place's level hangs on its class, and the sequence's level, alone.
func TestRaiseEach(t *testing.T) {
	eachMixed(func(s string) {
		for _, level := range []int{0, 1, 124, 125} {
			l, e := neutral.Raise(classes(s), level)
			if e != api.OK || len(l) != len(s) {
				t.Fatal(s, level, l, e)
			}
			for i := range s {
				want := level
				switch more := strings.IndexByte("LR12", s[i]); {
				case level%2 == 0 && more >= 0:
					want += []int{0, 1, 2, 2}[more]
				case level%2 == 1 && more >= 0:
					want += []int{1, 0, 1, 1}[more]
				}
				if l[i] != want {
					t.Fatalf("%q on %d: %v, at %d", s, level, l, i)
				}
			}
		}
	})
}

// P12.1: what is settled is raised: what is read from left to right is on even levels, the rest on odd ones, and numbers are on even ones.
func TestBoth(t *testing.T) {
	for _, x := range []struct {
		text  string
		level int
		sides string
		want  []int
	}{
		{"R?1", 0, "LL", []int{1, 1, 2}}, // a number behind letters from right to left
		{"?R_2?L?", 0, "LL", []int{0, 1, 1, 2, 0, 0, 0}},
		{"?R_2?L?", 1, "RR", []int{1, 1, 1, 2, 1, 2, 1}},
		{"L?L?1?", 1, "RL", []int{2, 2, 2, 1, 2, 1}},
		{"???", 2, "RR", []int{3, 3, 3}},
		{"???", 125, "LL", []int{126, 126, 126}},
	} {
		l, e := neutral.Settle(classes(x.text), seq(x.level, x.sides))
		if e != api.OK {
			t.Fatal(x, e)
		}
		holdLevels(t, l, x.level, x.want)
	}
}

// P12.2: behind Settle no place is neutral, at all classes, short lists of them, and long ones; and what is settled is settled to itself.
func TestNoneLeft(t *testing.T) {
	eachMixed(func(s string) {
		for level := range 2 {
			for _, sides := range allSides {
				l, e := neutral.Settle(classes(s), seq(level, sides))
				if e != api.OK || len(l) != len(s) {
					t.Fatalf("%q on %d between %q: %v, %v", s, level, sides, l, e)
				}
				for i, c := range l {
					switch c {
					case api.B, api.S, api.WS, api.ON, api.LRI, api.RLI, api.FSI, api.PDI:
						t.Fatalf("%q on %d between %q: %d at %d", s, level, sides, c, i)
					}
				}
				holdList(t, l, seq(level, sides), l)
			}
		}
	})
}

// P12.3: classes that are turned round, with the sides changed for one another, are settled to what they are settled to, turned round.
func TestTurnedAbout(t *testing.T) {
	eachMixed(func(s string) {
		for _, level := range []int{0, 1, 124, 125} {
			for _, sides := range allSides {
				l, e := neutral.Settle(classes(s), seq(level, sides))
				if e != api.OK {
					t.Fatalf("%q on %d between %q: %v", s, level, sides, e)
				}
				holdList(t, turned(classes(s)), seq(level, sides[1:]+sides[:1]), turned(l))
			}
		}
	})
	// Numbers that are no class, too.
	for _, number := range noClasses() {
		for _, s := range []string{"?~", "~?L", "R?~?", "?~L?R~"} {
			l, e := neutral.Settle(with(s, number), seq(1, "LR"))
			if e != api.OK {
				t.Fatal(s, number, e)
			}
			holdList(t, turned(with(s, number)), seq(1, "RL"), turned(l))
		}
	}
}

// P2: what is handed in is not written into; what lies behind its length is neither read nor written.
func TestGivenStays(t *testing.T) {
	const s = "?_R?1$2?L([R~?{)A?L_?s"
	l := classes(s)
	kept := slices.Clone(l)
	for cut := range len(s) + 1 {
		for level := range 2 {
			for _, sides := range allSides {
				want := classes(read(s[:cut], level, sides))
				holdList(t, l[:cut], seq(level, sides), want)
				levels, e := neutral.Raise(l[:cut], level)
				if e != api.OK || len(levels) != cut || !slices.Equal(l, kept) {
					t.Fatalf("%q: what is handed in is written into", s[:cut])
				}
				for _, behind := range []string{"L", "R", "1", "??L", "_R", "~", "A?"} {
					more := append(slices.Clone(l[:cut]), classes(behind)...)
					before := slices.Clone(more)
					holdList(t, more[:cut], seq(level, sides), want)
					holdLevels(t, more[:cut], level, levels)
					if !slices.Equal(more, before) {
						t.Fatalf("%q, behind it %q: what is handed in is written into", s[:cut], behind)
					}
				}
			}
		}
	}
}

// P2: what is answered shares no memory with what was handed in, or with another answer.
func TestNewMemory(t *testing.T) {
	for _, s := range []string{"", "L", "?", "L?R", "~", letters + string(other), sided + sideless, many(50, "R?1_L$")} {
		for _, sides := range allSides {
			l, want := classes(s), classes(read(s, 1, sides))
			kept := slices.Clone(l)
			one, _ := neutral.Settle(l, seq(1, sides))
			two, _ := neutral.Settle(l, seq(1, sides))
			for i := range one[:cap(one)] {
				one[:cap(one)][i] = -7
			}
			up, _ := neutral.Raise(l, 1)
			again, _ := neutral.Raise(l, 1)
			raised := slices.Clone(again)
			for i := range up[:cap(up)] {
				up[:cap(up)][i] = -8
			}
			if !slices.Equal(l, kept) || !slices.Equal(two, want) || !slices.Equal(again, raised) {
				t.Fatalf("%q: memory is shared", s)
			}
			for i := range l {
				l[i] = -9
			}
			if !slices.Equal(two, want) || !slices.Equal(again, raised) {
				t.Fatalf("%q: what was handed in is kept", s)
			}
			holdList(t, kept, seq(1, sides), want)
			holdLevels(t, kept, 1, raised)
		}
	}
}

// P2: lists that are changed between two calls are read afresh; a call behind one with another level, other sides, or an error, answers as if there had been none.
func TestChanged(t *testing.T) {
	l := classes("R??L?")
	first, e := neutral.Settle(l, seq(1, "LL"))
	if e != api.OK || !slices.Equal(first, classes("RRRLL")) {
		t.Fatal(first, e)
	}
	levels, e := neutral.Raise(l, 1)
	if e != api.OK || !slices.Equal(levels, []int{1, 1, 1, 2, 1}) {
		t.Fatal(levels, e)
	}
	l[0] = api.L
	holdList(t, l, seq(1, "LL"), classes("LLLLL"))
	holdLevels(t, l, 1, []int{2, 1, 1, 2, 1})
	refused(t, l, seq(126, "LL"))
	refused(t, l, seq(1, "LA"))
	holdList(t, l, seq(1, "LL"), classes("LLLLL"))
	holdList(t, l, seq(1, "LR"), classes("LLLLR"))
	holdList(t, l, seq(0, "LR"), classes("LLLLL"))
	l[2] = api.EN
	holdList(t, l, seq(0, "RR"), classes("LL1LL"))
	holdList(t, l, seq(1, "RR"), classes("LR1LR"))
	if _, e := neutral.Raise(l, -1); e != api.ErrArg {
		t.Error(e)
	}
	holdLevels(t, l, 0, []int{0, 0, 2, 0, 0})
	holdLevels(t, l, 1, []int{2, 1, 2, 2, 1})
	if !slices.Equal(first, classes("RRRLL")) || !slices.Equal(levels, []int{1, 1, 1, 2, 1}) {
		t.Error(first, levels)
	}
}
