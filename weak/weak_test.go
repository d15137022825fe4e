package weak_test

import (
	"math"
	"regexp"
	"slices"
	"strings"
	"testing"

	"frisket/api"
	"frisket/weak"
)

// letters has one for each class, in the order of their numbers: e, o, E and O for LRE, LRO, RLE and RLO, a point for PDF, and brackets for LRI, RLI, FSI and PDI.
const letters = "LRA1+#2,'0$s_?eoEO.([{)"

// other is the letter of a number that is no class.
const other = '~'

// neutral has the letters of the neutral places that stay.
const neutral = "$s_?([{)"

// rules is how many there are; the number of none stands for all of them here.
const rules, all = 7, 0

// sides is the first sides that may be, as letters.
const sides = "LR"

// noClasses is numbers that are no class.
var noClasses = []int{math.MinInt, math.MinInt32, -1 << 20, -256, -23, -8, -3, -2, -1, 23, 24, 99, 255, 256, 256 + 2, 256 + 3, 256 + 8, 1 << 16, 1 << 32, 1<<32 + 8, math.MaxInt32, math.MaxInt - 1, math.MaxInt}

// noRules is numbers of none.
var noRules = []int{math.MinInt, math.MinInt + 1, -1 << 32, -257, -256, -255, -8, -7, -2, -1, 0, 8, 9, 14, 255, 256, 257, 256 + 7, 1 << 16, 1 << 32, 1<<32 + 1, 1<<32 + 7, math.MaxInt32, math.MaxInt - 1, math.MaxInt}

// with is the classes of a text, with a number for each letter that is no class's.
func with(s string, n api.Class) []api.Class {
	l := make([]api.Class, len(s))
	for i := range s {
		l[i] = n
		if s[i] != other {
			l[i] = api.Class(strings.IndexByte(letters, s[i]))
		}
	}
	return l
}

// classes is those of letters.
func classes(s string) []api.Class {
	return with(s, 99)
}

// side is that of a letter.
func side(c byte) api.Class {
	return classes(string(c))[0]
}

// each hands out all texts of some letters, up to a length.
func each(of string, most int, do func(string)) {
	var grow func(b []byte)
	grow = func(b []byte) {
		do(string(b))
		if len(b) == most {
			return
		}
		for i := range of {
			grow(append(b, of[i]))
		}
	}
	grow(make([]byte, 0, most))
}

// makes is what a rule makes, or all of them.
func makes(n int, l []api.Class, first api.Class) ([]api.Class, api.Errno) {
	if n == all {
		return weak.All(l, first)
	}
	return weak.Rule(n, l, first)
}

// hold holds what a rule, or all, makes of a text.
func hold(t *testing.T, n int, s string, first byte, want string) {
	t.Helper()
	holdList(t, n, classes(s), first, classes(want))
}

// holdList holds what a rule, or all, makes of a list.
func holdList(t *testing.T, n int, l []api.Class, first byte, want []api.Class) {
	t.Helper()
	got, e := makes(n, l, side(first))
	if e != api.OK || !slices.Equal(got, want) {
		t.Fatalf("rule %d of %v behind %c: %v, %v, want %v", n, l, first, got, e, want)
	}
}

// The patterns by which rules are read.
var (
	markBehindIsolate = regexp.MustCompile(`([([{)])'`)
	markBehind        = regexp.MustCompile(`([^([{)'])'`)
	behindAL          = regexp.MustCompile(`A[^LRA]*`)
	behindL           = regexp.MustCompile(`L[^LRA]*`)
	joinEN            = regexp.MustCompile(`^1[+,]1$`)
	joinAN            = regexp.MustCompile(`^2,2$`)
	numbersAndSigns   = regexp.MustCompile(`[1#]+`)
	leftOver          = regexp.MustCompile(`[+#,]`)
)

// read is what a rule makes of a text, or all of them, by patterns.
func read(n int, s string, first byte) string {
	switch n {
	case all:
		for k := range rules {
			s = read(k+1, s, first)
		}
		return s
	case 1:
		s = string(first) + s
		for strings.Contains(s, "'") {
			s = markBehindIsolate.ReplaceAllString(s, "${1}?")
			s = markBehind.ReplaceAllString(s, "${1}${1}")
		}
		return s[1:]
	case 2:
		return behindAL.ReplaceAllStringFunc(s, func(found string) string { return strings.ReplaceAll(found, "1", "2") })
	case 3:
		return strings.ReplaceAll(s, "A", "R")
	case 4:
		return readJoined(s)
	case 5:
		return numbersAndSigns.ReplaceAllStringFunc(s, func(found string) string {
			if strings.Contains(found, "1") {
				return strings.ReplaceAll(found, "#", "1")
			}
			return found
		})
	case 6:
		return leftOver.ReplaceAllString(s, "?")
	}
	s = behindL.ReplaceAllStringFunc(string(first)+s, func(found string) string { return strings.ReplaceAll(found, "1", "L") })
	return s[1:]
}

// readJoined is what the fourth rule makes, place by place.
func readJoined(s string) string {
	b := []byte(s)
	for i := 1; i < len(s)-1; i++ {
		three := string(b[i-1]) + s[i:i+2]
		switch {
		case joinEN.MatchString(three):
			b[i] = '1'
		case joinAN.MatchString(three):
			b[i] = '2'
		}
	}
	return string(b)
}

// P10.1: the numbers of the classes are those of the letters, and what is wrong has its name.
func TestNumbers(t *testing.T) {
	want := []api.Class{api.L, api.R, api.AL, api.EN, api.ES, api.ET, api.AN, api.CS, api.NSM, api.BN, api.B, api.S, api.WS, api.ON, api.LRE, api.LRO, api.RLE, api.RLO, api.PDF, api.LRI, api.RLI, api.FSI, api.PDI}
	if l := classes(letters); !slices.Equal(l, want) {
		t.Fatal(l)
	}
	if side('L') != api.L || side('R') != api.R || api.ErrArg != 1 {
		t.Fatal(side('L'), side('R'), api.ErrArg)
	}
}

// P10.1: no classes, and nil, under each rule and under all.
func TestNothing(t *testing.T) {
	for n := range rules + 1 {
		for _, first := range []byte(sides) {
			holdList(t, n, nil, first, nil)
			holdList(t, n, []api.Class{}, first, nil)
			holdList(t, n, classes("'1")[:0], first, nil)
		}
	}
}

// P10.1: each class alone, written out: what each rule makes of them, and all, behind both sides.
func TestAlone(t *testing.T) {
	for n, x := range [rules + 1][2]string{
		{"LRRL??2?L0$s_?eoEO.([{)", "LRR1??2?R0$s_?eoEO.([{)"},
		{"LRA1+#2,L0$s_?eoEO.([{)", "LRA1+#2,R0$s_?eoEO.([{)"},
		{"LRA1+#2,'0$s_?eoEO.([{)", "LRA1+#2,'0$s_?eoEO.([{)"},
		{"LRR1+#2,'0$s_?eoEO.([{)", "LRR1+#2,'0$s_?eoEO.([{)"},
		{"LRA1+#2,'0$s_?eoEO.([{)", "LRA1+#2,'0$s_?eoEO.([{)"},
		{"LRA1+#2,'0$s_?eoEO.([{)", "LRA1+#2,'0$s_?eoEO.([{)"},
		{"LRA1??2?'0$s_?eoEO.([{)", "LRA1??2?'0$s_?eoEO.([{)"},
		{"LRAL+#2,'0$s_?eoEO.([{)", "LRA1+#2,'0$s_?eoEO.([{)"},
	} {
		for i := range letters {
			hold(t, n, letters[i:i+1], 'L', x[0][i:i+1])
			hold(t, n, letters[i:i+1], 'R', x[1][i:i+1])
		}
	}
}

// row is a text, and what is made of it behind L, and behind R.
type row struct{ text, left, right string }

// holdRows holds what a rule, or all, makes of texts, written out.
func holdRows(t *testing.T, n int, rows []row) {
	t.Helper()
	for _, x := range rows {
		hold(t, n, x.text, 'L', x.left)
		hold(t, n, x.text, 'R', x.right)
	}
}

// change is a text, and what is made of it behind either side.
type change struct{ text, to string }

// holdChanges holds what a rule, or all, makes of texts, written out, whatever the first side is.
func holdChanges(t *testing.T, n int, changes []change) {
	t.Helper()
	for _, x := range changes {
		hold(t, n, x.text, 'L', x.to)
		hold(t, n, x.text, 'R', x.to)
	}
}

// P10.1: an NSM becomes what stands ahead of it.
func TestMarks(t *testing.T) {
	holdRows(t, 1, []row{
		{"'", "L", "R"},
		{"''", "LL", "RR"},
		{"''''", "LLLL", "RRRR"},
		{"'L", "LL", "RL"},
		{"''R'", "LLRR", "RRRR"},
		{"'1'A'", "L11AA", "R11AA"},
		{"'('", "L(?", "R(?"},
		{"'')'", "LL)?", "RR)?"},
		{"'?'", "L??", "R??"},
	})
	holdChanges(t, 1, []change{
		{"L'", "LL"}, {"R'", "RR"}, {"A'", "AA"}, {"1'", "11"}, {"+'", "++"}, {"#'", "##"}, {"2'", "22"}, {",'", ",,"}, {"0'", "00"}, {"$'", "$$"}, {"s'", "ss"}, {"_'", "__"}, {"?'", "??"}, {"e'", "ee"}, {"o'", "oo"}, {"E'", "EE"}, {"O'", "OO"}, {".'", ".."},
		{"A''", "AAA"}, {"1'''", "1111"}, {"$''", "$$$"},
		{"L'R'1'2'", "LLRR1122"},
		// Behind what begins an isolate, or ends it; the next one stands behind an ON.
		{"('", "(?"}, {"['", "[?"}, {"{'", "{?"}, {")'", ")?"},
		{"(''", "(??"}, {"['''", "[???"}, {"{''", "{??"}, {")'''", ")???"},
		{"L(')'", "L(?)?"}, {"()'", "()?"}, {"R[''R')''R", "R[??RR)??R"}, {")L'", ")LL"}, {"(1'", "(11"},
		// Nothing else changes.
		{"LRA1+#2,0$s_?eoEO.([{)", "LRA1+#2,0$s_?eoEO.([{)"},
		{"A1,1#?", "A1,1#?"},
	})
}

// P10.1: an EN becomes AN behind an AL.
func TestNumbersBehindAL(t *testing.T) {
	holdChanges(t, 2, []change{
		{"1", "1"}, {"L1", "L1"}, {"R1", "R1"}, {"A1", "A2"},
		{"A?1", "A?2"}, {"A11", "A22"}, {"A1?1", "A2?2"}, {"A2?1", "A2?2"}, {"A1,1", "A2,2"},
		{"AL1", "AL1"}, {"AR1", "AR1"}, {"LA1", "LA2"}, {"RA1", "RA2"}, {"AA1", "AA2"},
		{"1A", "1A"}, {"1A1", "1A2"}, {"?1", "?1"}, {"21", "21"}, {"'1", "'1"},
		{"A1L1A1R1A1", "A2L1A2R1A2"},
		// Far ahead, with all others between.
		{"A+#2,'0$s_?eoEO.([{)1", "A+#2,'0$s_?eoEO.([{)2"},
		{"L+#2,'0$s_?eoEO.([{)1", "L+#2,'0$s_?eoEO.([{)1"},
		{"R+#2,'0$s_?eoEO.([{)1", "R+#2,'0$s_?eoEO.([{)1"},
		{"+#2,'0$s_?eoEO.([{)1", "+#2,'0$s_?eoEO.([{)1"},
		{"AR+#2,'0$s_?eoEO.([{)1", "AR+#2,'0$s_?eoEO.([{)1"},
		{"LA" + strings.Repeat("?1", 40), "LA" + strings.Repeat("?2", 40)},
		// Nothing else changes.
		{"A+#2,'0$s_?eoEO.([{)LR", "A+#2,'0$s_?eoEO.([{)LR"},
	})
}

// P10.1: an AL becomes R.
func TestArabicLetters(t *testing.T) {
	holdChanges(t, 3, []change{
		{"A", "R"}, {"AAA", "RRR"}, {"AL", "RL"}, {"LA", "LR"}, {"ALA", "RLR"}, {"A1", "R1"}, {"1A1", "1R1"}, {"A'", "R'"}, {"2A,A", "2R,R"},
		{"LR1+#2,'0$s_?eoEO.([{)A", "LR1+#2,'0$s_?eoEO.([{)R"},
	})
}

// P10.1: an EN behind an AL that a rule ahead has made an R is behind an R.
func TestMadeRight(t *testing.T) {
	for _, first := range []byte(sides) {
		l, e := weak.Rule(3, classes("A1?1"), side(first))
		if e != api.OK || !slices.Equal(l, classes("R1?1")) {
			t.Fatal(l, e)
		}
		holdList(t, 2, l, first, classes("R1?1"))
		holdList(t, 7, l, first, classes("R1?1"))
		holdList(t, all, l, first, classes("R1?1"))
	}
}

// P10.1: separators between two numbers of one class become that.
func TestSeparators(t *testing.T) {
	holdChanges(t, 4, []change{
		// At the beginning, and at the end.
		{"+", "+"}, {",", ","}, {"+1", "+1"}, {",1", ",1"}, {"1+", "1+"}, {"1,", "1,"}, {",2", ",2"}, {"2,", "2,"},
		// Between two numbers.
		{"1+1", "111"}, {"1,1", "111"}, {"2,2", "222"}, {"2+2", "2+2"},
		{"1,2", "1,2"}, {"2,1", "2,1"}, {"1+2", "1+2"}, {"2+1", "2+1"},
		// Two one behind the other.
		{"1++1", "1++1"}, {"1,,1", "1,,1"}, {"1+,1", "1+,1"}, {"1,+1", "1,+1"}, {"2,,2", "2,,2"}, {"2+,2", "2+,2"},
		{"1+1++1", "111++1"}, {"1++1+1", "1++111"}, {"2,2,,2", "222,,2"},
		// In a row.
		{"1+1+1", "11111"}, {"1,1,1", "11111"}, {"1+1,1+1", "1111111"}, {"2,2,2", "22222"}, {"2,2+2,2", "222+222"},
		{"1,1,2,2", "111,222"}, {"2,2,1,1", "222,111"}, {"1+1,2", "111,2"}, {"2,1+1", "2,111"}, {"+1+1+", "+111+"}, {",2,2,", ",222,"},
		// With something between, or another class beside them.
		{"1?+1", "1?+1"}, {"1+?1", "1+?1"}, {"1'+1", "1'+1"}, {"1+'1", "1+'1"}, {"1,0,1", "1,0,1"}, {"1#1", "1#1"}, {"1?1", "1?1"}, {"2#2", "2#2"}, {"1'1", "1'1"},
		{"L+L", "L+L"}, {"R,R", "R,R"}, {"?,?", "?,?"}, {"L+1", "L+1"}, {"1,R", "1,R"}, {"+++", "+++"}, {",,,", ",,,"}, {"A1,1", "A111"},
		{"LRA1#2'0$s_?eoEO.([{)", "LRA1#2'0$s_?eoEO.([{)"},
	})
}

// P10.1: ETs beside one another become ENs, if one of them is beside an EN.
func TestSigns(t *testing.T) {
	holdChanges(t, 5, []change{
		// One, and several, ahead of an EN, behind one, and between two.
		{"#1", "11"}, {"##1", "111"}, {"####1", "11111"},
		{"1#", "11"}, {"1##", "111"}, {"1####", "11111"},
		{"1#1", "111"}, {"1##1", "1111"}, {"1###1", "11111"}, {"#1#", "111"}, {"##1##1##", "11111111"},
		// Beside no EN.
		{"#", "#"}, {"##", "##"}, {"#L", "#L"}, {"L##", "L##"}, {"#2", "#2"}, {"2#", "2#"}, {"2##2", "2##2"}, {"?#?", "?#?"}, {"R#A", "R#A"},
		// With something between.
		{"#?1", "#?1"}, {"1?#", "1?#"}, {"1?#1", "1?11"}, {"1#?#", "11?#"}, {"1#?#1", "11?11"}, {"##?##1", "##?111"}, {"1##?##", "111?##"},
		{"#'1", "#'1"}, {"1'#", "1'#"}, {"1#'#", "11'#"}, {"#01", "#01"}, {"10#", "10#"}, {"#+1", "#+1"}, {"1+#", "1+#"}, {"1#+#1", "11+11"}, {"#A1", "#A1"}, {"1L##R1", "1L##R1"},
		{"2#1", "211"}, {"1#2", "112"}, {"2##1", "2111"}, {"1##2", "1112"}, {"1#2#1", "11211"}, {"#2#1", "#211"},
		{"L#1#R", "L111R"}, {"A##1?", "A111?"},
		{"LRA1+2,'0$s_?eoEO.([{)", "LRA1+2,'0$s_?eoEO.([{)"},
	})
}

// P10.1: what is left of ES, ET and CS becomes ON.
func TestLeftOver(t *testing.T) {
	holdChanges(t, 6, []change{
		{"+", "?"}, {"#", "?"}, {",", "?"}, {"+#,", "???"}, {"1+", "1?"}, {",2", "?2"}, {"1+1", "1?1"}, {"2,2", "2?2"}, {"1#", "1?"}, {"##1", "??1"}, {"L+R#A,'", "L?R?A?'"},
		{"LRA12'0$s_?eoEO.([{)", "LRA12'0$s_?eoEO.([{)"},
	})
}

// P10.1: an EN becomes L behind an L.
func TestNumbersBehindL(t *testing.T) {
	holdRows(t, 7, []row{
		{"1", "L", "1"},
		{"11", "LL", "11"},
		{"21", "2L", "21"},
		{"?1?1", "?L?L", "?1?1"},
		{"1L1R1A1", "LLLR1A1", "1LLR1A1"},
		{"1R1L1", "LR1LL", "1R1LL"},
		{"+#2,'0$s_?eoEO.([{)1", "+#2,'0$s_?eoEO.([{)L", "+#2,'0$s_?eoEO.([{)1"},
	})
	holdChanges(t, 7, []change{
		{"L1", "LL"}, {"R1", "R1"}, {"A1", "A1"}, {"L11", "LLL"}, {"L1?1", "LL?L"}, {"L2?1", "L2?L"},
		{"LR1", "LR1"}, {"LA1", "LA1"}, {"RL1", "RLL"}, {"AL1", "ALL"}, {"RA1", "RA1"},
		// Far ahead, with all others between.
		{"L+#2,'0$s_?eoEO.([{)1", "L+#2,'0$s_?eoEO.([{)L"},
		{"R+#2,'0$s_?eoEO.([{)1", "R+#2,'0$s_?eoEO.([{)1"},
		{"A+#2,'0$s_?eoEO.([{)1", "A+#2,'0$s_?eoEO.([{)1"},
		{"RL" + strings.Repeat("?1", 40), "RL" + strings.Repeat("?L", 40)},
		{"LR" + strings.Repeat("?1", 40), "LR" + strings.Repeat("?1", 40)},
		// Nothing else changes.
		{"L+#2,'0$s_?eoEO.([{)R", "L+#2,'0$s_?eoEO.([{)R"},
	})
}

// P10.1: all rules, one behind the other.
func TestAll(t *testing.T) {
	holdRows(t, all, []row{
		{"'", "L", "R"},
		{"''1", "LLL", "RR1"},
		{"1+1", "LLL", "111"},
		{"1,1", "LLL", "111"},
		{"1,2", "L?2", "1?2"},
		{"1#", "LL", "11"},
		{"##1", "LLL", "111"},
		{"#?1", "??L", "??1"},
		{"1++1", "L??L", "1??1"},
		{"1,1#+#1", "LLLL?LL", "1111?11"},
		{"1+1+1", "LLLLL", "11111"},
		{"1+1++1", "LLL??L", "111??1"},
		{"1+#", "L??", "1??"},
		{"2#1", "2LL", "211"},
		// What NSMs have become goes with numbers, too.
		{"1'#", "LLL", "111"},
		{"1#'+", "LLL?", "111?"},
		{"#'1", "LLL", "111"},
		{"1'+1", "LLLL", "1111"},
		{"1+'1", "L??L", "1??1"},
		{"1('1", "L(?L", "1(?1"},
		{"1A1", "LR2", "1R2"},
		{"1,1'#A1+", "LLLLLR2?", "11111R2?"},
	})
	holdChanges(t, all, []change{
		{"('", "(?"}, {")''", ")??"}, {"L'", "LL"}, {"R'1", "RR1"},
		{"A", "R"}, {"A1", "R2"}, {"A?1", "R?2"}, {"A'1", "RR2"}, {"A(1", "R(2"}, {"AAA", "RRR"},
		{"A1,1", "R222"}, {"A1+1", "R2?2"}, {"A1,2", "R222"}, {"A#1", "R?2"}, {"A1#", "R2?"}, {"A1''", "R222"},
		{"2,2", "222"}, {"2+2", "2?2"}, {"2,,2", "2??2"}, {"2#", "2?"},
		{"L1", "LL"}, {"R1", "R1"}, {"L?1", "L?L"}, {"R?1", "R?1"}, {"L+1", "L?L"}, {"R+1", "R?1"}, {"L1,1", "LLLL"}, {"R1,1", "R111"}, {"R1,2", "R1?2"},
		{"L1A1R1", "LLR2R1"}, {"R1A1L1", "R1R2LL"}, {"L2?1", "L2?L"},
		{"L#1", "LLL"}, {"R##1#", "R1111"},
		{"+,#", "???"},
		{"L0$s_?eoEO.([{)", "L0$s_?eoEO.([{)"},
	})
}

// P10.1: all texts up to three classes, numbers that are no class among them, and longer ones of classes that have to do with one another, under each rule and under all, behind both sides, as read by patterns.
func TestAllShort(t *testing.T) {
	for _, x := range []struct {
		of   string
		most int
	}{
		{letters + string(other), 3},
		{"1+,2", 7},
		{"1+#?", 7},
		{"1#2'", 6},
		{"LRA1?", 6},
		{"'([{)L", 5},
		{"LA1,#'2", 5},
	} {
		each(x.of, x.most, func(s string) {
			for _, first := range []byte(sides) {
				for n := range rules + 1 {
					hold(t, n, s, first, read(n, s, first))
				}
			}
		})
	}
}

// P10.1: All is what Rule makes, from 1 to 7, one behind the other.
func TestOneBehindTheOther(t *testing.T) {
	each("LRA1+#2,'?(~", 4, func(s string) {
		for _, first := range []byte(sides) {
			l := classes(s)
			for n := 1; n <= rules; n++ {
				next, e := weak.Rule(n, l, side(first))
				if e != api.OK {
					t.Fatalf("rule %d of %q: %v", n, s, e)
				}
				l = next
			}
			holdList(t, all, classes(s), first, l)
		}
	})
}

// P10.1: numbers that are no class stay, and are none of those that rules name; but NSMs become them.
func TestNoClass(t *testing.T) {
	for _, number := range noClasses {
		for _, s := range []string{"~", "~~~", "1~1", "A~1", "~'", "L~''", "1+~", "1~1", "~+1", "1#~#1", "~#", "2~2", "1,~,1", "(~'", "L~1", "R~1", "~1~A~1~"} {
			for n := range rules + 1 {
				for _, first := range []byte(sides) {
					holdList(t, n, with(s, api.Class(number)), first, with(read(n, s, first), api.Class(number)))
				}
			}
		}
	}
}

// P10.1, P1: numbers of no rule, whatever the classes and the side.
func TestNoRule(t *testing.T) {
	for _, n := range noRules {
		for _, first := range append([]int{0, 1, 2, 3}, noClasses...) {
			for _, s := range []string{"", "L", "'1+1#A1"} {
				if l, e := weak.Rule(n, classes(s), api.Class(first)); e != api.ErrArg || len(l) != 0 {
					t.Errorf("rule %d of %q behind %d: %v, %v", n, s, first, l, e)
				}
			}
			if l, e := weak.Rule(n, nil, api.Class(first)); e != api.ErrArg || len(l) != 0 {
				t.Errorf("rule %d of nil behind %d: %v, %v", n, first, l, e)
			}
		}
	}
}

// P10.1, P1: first sides that are neither L nor R, under each rule and under all, whatever the classes.
func TestNoSide(t *testing.T) {
	wrong := slices.Clone(noClasses)
	for c := int(api.AL); c <= int(api.PDI); c++ {
		wrong = append(wrong, c)
	}
	for _, first := range wrong {
		for n := range rules + 1 {
			for _, l := range [][]api.Class{nil, {}, classes("L"), classes("'"), classes("1"), classes("?"), classes("LR'1+1#A1,1")} {
				if got, e := makes(n, l, api.Class(first)); e != api.ErrArg || len(got) != 0 {
					t.Errorf("rule %d of %v behind %d: %v, %v", n, l, first, got, e)
				}
			}
		}
	}
}

// eachMixed hands out texts of all classes, and of numbers that are none: short ones, these many times over, and a long one that a rule of its own mixes.
func eachMixed(do func(string)) {
	each(letters+string(other), 3, func(s string) {
		do(s)
		do(strings.Repeat(s, 7) + "1" + strings.Repeat(s, 2))
	})
	each("A1+#2,'(?", 4, do)
	of, at := letters+string(other), 1
	b := make([]byte, 5000)
	for i := range b {
		at = at * 75 % 65537
		b[i] = of[at%len(of)]
	}
	do(string(b))
}

// P10.2: of what all rules make no place is NSM, AL, ES, ET or CS.
func TestWhatIsLeft(t *testing.T) {
	eachMixed(func(s string) {
		for _, first := range []byte(sides) {
			l, e := weak.All(classes(s), side(first))
			if e != api.OK || len(l) != len(s) {
				t.Fatalf("%q behind %c: %v, %v", s, first, l, e)
			}
			for i, c := range l {
				switch c {
				case api.NSM, api.AL, api.ES, api.ET, api.CS:
					t.Fatalf("%q behind %c: %d at %d", s, first, c, i)
				}
			}
		}
	})
}

// P10.3: neutral places, but NSM, ES, ET and CS, stay, under each rule and under all; so do those of classes that no rule names.
func TestOthersStay(t *testing.T) {
	eachMixed(func(s string) {
		given := classes(s)
		for _, first := range []byte(sides) {
			for n := range rules + 1 {
				l, e := makes(n, given, side(first))
				if e != api.OK || len(l) != len(s) {
					t.Fatalf("rule %d of %q behind %c: %v, %v", n, s, first, l, e)
				}
				for i := range s {
					stays := strings.IndexByte(neutral+"LR20eoEO.~", s[i]) >= 0
					if stays && l[i] != given[i] {
						t.Fatalf("rule %d of %q behind %c: %d at %d", n, s, first, l[i], i)
					}
				}
			}
		}
	})
}

// P10.1, P1: long lists, gone through at once.
func TestLong(t *testing.T) {
	const many = 200000
	for _, x := range []struct {
		n             int
		ahead, behind string // many of each
		to, toBehind  string
	}{
		{1, "'", "'", "R", "R"},
		{1, "(", "'", "(", "?"},
		{1, "('", "A'", "(?", "AA"},
		{2, "A", "1", "A", "2"},
		{2, "A", "?1", "A", "?2"},
		{2, "L1", "A1", "L1", "A2"},
		{3, "A", "A1", "R", "R1"},
		{4, "1+", "1,1", "11", "111"},
		{4, "2,", "2", "22", "2"},
		{4, "++", "1,,", "++", "1,,"},
		{5, "#", "1", "1", "1"},
		{5, "1", "#", "1", "1"},
		{5, "#1", "1#", "11", "11"},
		{5, "#", "?", "#", "?"},
		{5, "1?", "#?", "1?", "#?"},
		{6, "+", "#,", "?", "??"},
		{7, "L", "1", "L", "L"},
		{7, "L", "?1", "L", "?L"},
		{7, "1", "?1", "1", "?1"},
		{all, "'", "1", "R", "1"},
		{all, "A", "1#", "R", "2?"},
		{all, "L#L", "1", "L?L", "L"},
	} {
		s := strings.Repeat(x.ahead, many) + strings.Repeat(x.behind, many)
		want := strings.Repeat(x.to, many) + strings.Repeat(x.toBehind, many)
		l, e := makes(x.n, classes(s), api.R)
		if e != api.OK || !slices.Equal(l, classes(want)) {
			t.Fatalf("rule %d, many of %q and of %q: %v", x.n, x.ahead, x.behind, e)
		}
	}
}

// P2: what is handed in is not written into; what lies behind its length is neither read nor written.
func TestGivenStays(t *testing.T) {
	const s = "'1#?A'1,1+L1+1##('A'1#')2,2?R,1+1{#"
	l := classes(s)
	kept := slices.Clone(l)
	for n := range rules + 1 {
		for _, first := range []byte(sides) {
			for cut := range len(s) + 1 {
				want := classes(read(n, s[:cut], first))
				holdList(t, n, l[:cut], first, want)
				if !slices.Equal(l, kept) {
					t.Fatalf("rule %d of %q: what is handed in is written into", n, s[:cut])
				}
				for _, behind := range []string{"1", "2", "#1", "''", "A", "L", "+,#"} {
					more := append(slices.Clone(l[:cut]), classes(behind)...)
					holdList(t, n, more[:cut], first, want)
					if !slices.Equal(more, append(slices.Clone(kept[:cut]), classes(behind)...)) {
						t.Fatalf("rule %d of %q, behind it %q: what is handed in is written into", n, s[:cut], behind)
					}
				}
			}
			if _, e := makes(n, l, api.AL); e != api.ErrArg || !slices.Equal(l, kept) {
				t.Fatalf("rule %d: with an error what is handed in is written into", n)
			}
		}
	}
}

// P2: what is answered shares no memory with what was handed in, or with another answer.
func TestNewMemory(t *testing.T) {
	for _, s := range []string{"L", "'", "A1", "1+1", "##1", "LRA1+#2,'0$s_?eoEO.([{)~", strings.Repeat("A1,1#'", 50)} {
		for n := range rules + 1 {
			for _, first := range []byte(sides) {
				l, want := classes(s), classes(read(n, s, first))
				kept := slices.Clone(l)
				one, _ := makes(n, l, side(first))
				two, _ := makes(n, l, side(first))
				for i := range one[:cap(one)] {
					one[:cap(one)][i] = -7
				}
				if !slices.Equal(l, kept) || !slices.Equal(two, want) {
					t.Fatalf("rule %d of %q: memory is shared", n, s)
				}
				for i := range l {
					l[i] = -9
				}
				if !slices.Equal(two, want) {
					t.Fatalf("rule %d of %q: what was handed in is kept", n, s)
				}
				holdList(t, n, kept, first, want)
			}
		}
	}
}

// P2: lists that are changed between two calls are read afresh; a call behind one with another rule, another side, or an error, answers as if there had been none.
func TestChanged(t *testing.T) {
	l := classes("A1")
	first, e := weak.All(l, api.L)
	if e != api.OK || !slices.Equal(first, classes("R2")) {
		t.Fatal(first, e)
	}
	l[0] = api.L
	holdList(t, all, l, 'R', classes("LL"))
	if _, e := weak.Rule(8, l, api.R); e != api.ErrArg {
		t.Error(e)
	}
	l[0] = api.NSM
	holdList(t, all, l, 'R', classes("R1"))
	holdList(t, all, l, 'L', classes("LL"))
	holdList(t, 1, l, 'R', classes("R1"))
	holdList(t, 7, l, 'L', classes("'L"))
	if !slices.Equal(first, classes("R2")) {
		t.Error(first)
	}
}
