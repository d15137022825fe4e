package resolve_test

import (
	"math"
	"slices"
	"strings"
	"testing"

	"frisket/api"
	"frisket/bracket"
	"frisket/resolve"
)

// letters has one for each class, in the order of their numbers: e, o, E and O for LRE, LRO, RLE and RLO, a point for PDF, and brackets for LRI, RLI, FSI and PDI.
const letters = "LRA1+#2,'0$s_?eoEO.([{)"

// other is the letter of a number that is no class.
const other = '~'

// marked is the letters of ON with a mark: < and > are one sort of brackets, / and \ another one.
const marked = `<>/\`

// The letters of what is removed, of what parts a line, of what else may have the base on a line, and of the others.
const removed, parting, trailing, staying = "0eoEO.", "$s", "_([{)", "LRA1+#2,'?~"

// digits is those of levels; any other letter is the level of what is removed.
const digits = "0123456789"

// noBases is numbers that are neither 0, 1 nor -1.
var noBases = []int{math.MinInt, math.MinInt + 1, -1 << 32, -1<<32 + 1, -1<<32 - 1, math.MinInt32, -1 << 16, -257, -256, -255, -128, -127, -3, -2, 2, 3, 4, 125, 126, 127, 128, 254, 255, 256, 257, 1 << 16, 1<<16 + 1, math.MaxInt32, 1 << 32, 1<<32 - 1, 1<<32 + 1, math.MaxInt - 1, math.MaxInt}

// noClasses is numbers that are no class: great ones, those just beyond classes, and those of which some bits are a class's.
func noClasses() []api.Class {
	l := []api.Class{math.MinInt, math.MinInt + 1, math.MinInt32, -3, -2, -1, 23, 24, 25, 31, 99, math.MaxInt32, math.MaxInt - 1, math.MaxInt}
	for _, far := range []int{-1 << 32, -1 << 16, -256, -128, -64, -32, 32, 64, 128, 256, 1 << 16, 1 << 32} {
		for c := range len(letters) {
			l = append(l, api.Class(far+c))
		}
	}
	return l
}

// with is the classes of a text, with a number for each letter that is no class's.
func with(s string, n api.Class) []api.Class {
	l := make([]api.Class, len(s))
	for i := range s {
		switch {
		case strings.IndexByte(marked, s[i]) >= 0:
			l[i] = api.ON
		case s[i] == other:
			l[i] = n
		default:
			l[i] = api.Class(strings.IndexByte(letters, s[i]))
		}
	}
	return l
}

// classes is those of letters.
func classes(s string) []api.Class {
	return with(s, 99)
}

// marks is those of letters.
func marks(s string) []bracket.Mark {
	l := make([]bracket.Mark, len(s))
	for i := range s {
		if k := strings.IndexByte(marked, s[i]); k >= 0 {
			l[i] = bracket.Mark{Kind: 1 + k%2, ID: 5 + k/2}
		}
	}
	return l
}

// levels is those of digits.
func levels(s string) []int {
	l := make([]int, len(s))
	for i := range s {
		l[i] = strings.IndexByte(digits, s[i])
	}
	return l
}

// many is a text, several times over.
func many(n int, s string) string {
	return strings.Repeat(s, n)
}

// each hands out all texts of some letters, up to a length.
func each(of string, most int, do func(string)) {
	var grow func(b []byte)
	grow = func(b []byte) {
		do(string(b))
		if len(b) == most {
			return
		}
		for i := range of {
			grow(append(b, of[i]))
		}
	}
	grow(make([]byte, 0, most))
}

// mixed is a long text that a rule of its own mixes.
func mixed(of string, n, at int) string {
	b := make([]byte, n)
	for i := range b {
		at = at * 75 % 65537
		b[i] = of[at%len(of)]
	}
	return string(b)
}

// eachMixed hands out long texts, of all letters and of some.
func eachMixed(do func(string)) {
	for _, of := range []string{letters + string(other) + marked, "LR1?" + marked, "LRA12#+,'_?", "LR?([{)", "LR1_([{)" + marked, "LReoEO.([{)", "R1eoEO.", "LRA'" + marked + "[)", "LR$s_?0[)", "L??????()E.", "R<>'[(){oO.$", "12#,[)A", "L[[[[(((({{{{)"} {
		for at := range 30 {
			do(mixed(of, 12+7*at, at+1))
		}
	}
}

// holdList holds a paragraph's levels.
func holdList(t *testing.T, l []api.Class, marks []bracket.Mark, base int, want []int) {
	t.Helper()
	got, e := resolve.Paragraph(l, marks, base)
	if e != api.OK || !slices.Equal(got, want) {
		t.Fatalf("%v with %v on %d: %v, %v, want %v", l, marks, base, got, e, want)
	}
}

// hold holds the levels of a text, written out.
func hold(t *testing.T, s string, base int, want string) {
	t.Helper()
	got, e := resolve.Paragraph(classes(s), marks(s), base)
	if e != api.OK || !slices.Equal(got, levels(want)) {
		t.Fatalf("%q on %d: %v, %v, want %v", s, base, got, e, levels(want))
	}
}

// told is a text, and its levels with the base 0, and with the base 1.
type told struct{ text, even, odd string }

// holdBoth holds the levels of texts, written out, on both bases.
func holdBoth(t *testing.T, all []told) {
	t.Helper()
	for _, x := range all {
		hold(t, x.text, 0, x.even)
		hold(t, x.text, 1, x.odd)
	}
}

// holdRead holds the levels of a text, with the marks of another one, on all bases, as they are read another way.
func holdRead(t *testing.T, s, m string) {
	t.Helper()
	for base := -1; base <= 1; base++ {
		want := read(s, m, base)
		got, e := resolve.Paragraph(classes(s), marks(m), base)
		if e != api.OK || !slices.Equal(got, want) {
			t.Fatalf("%q with %q on %d: %v, %v, want %v", s, m, base, got, e, want)
		}
	}
}

// holdPart holds the levels of a line, written out, on both bases; b stands for the base.
func holdPart(t *testing.T, s, of string, from, to int, want string) {
	t.Helper()
	for base := range 2 {
		want := strings.ReplaceAll(want, "b", digits[base:base+1])
		got, e := resolve.Line(classes(s), levels(of), [3]int{from, to, base})
		if e != api.OK || !slices.Equal(got, levels(want)) {
			t.Fatalf("%q of %q, from %d to %d on %d: %v, %v, want %v", s, of, from, to, base, got, e, levels(want))
		}
	}
}

// holdWhole holds the levels of a line that is the whole text.
func holdWhole(t *testing.T, s, of, want string) {
	t.Helper()
	holdPart(t, s, of, 0, len(s), want)
}

// holdLines holds all lines of a text, on both bases, as they are read another way.
func holdLines(t *testing.T, s string, of []int) {
	t.Helper()
	for from := range len(s) + 1 {
		for to := from; to <= len(s); to++ {
			for base := range 2 {
				want := readLine(s[from:to], of[from:to], base)
				got, e := resolve.Line(classes(s), of, [3]int{from, to, base})
				if e != api.OK || !slices.Equal(got, want) {
					t.Fatalf("%q of %v, from %d to %d on %d: %v, %v, want %v", s, of, from, to, base, got, e, want)
				}
			}
		}
	}
}

// rising is levels of a text that rise, but of what is removed.
func rising(s string) []int {
	l := make([]int, len(s))
	for i := range s {
		l[i] = i + 7
		if strings.IndexByte(removed, s[i]) >= 0 {
			l[i] = -1
		}
	}
	return l
}

// P13.1: the numbers of the classes are those of the letters, and what is wrong has its name.
func TestNumbers(t *testing.T) {
	want := []api.Class{api.L, api.R, api.AL, api.EN, api.ES, api.ET, api.AN, api.CS, api.NSM, api.BN, api.B, api.S, api.WS, api.ON, api.LRE, api.LRO, api.RLE, api.RLO, api.PDF, api.LRI, api.RLI, api.FSI, api.PDI}
	if l := classes(letters); !slices.Equal(l, want) || api.ErrLevel != 81 {
		t.Fatal(l)
	}
	if l := classes(removed + parting + trailing); !slices.Equal(l, []api.Class{api.BN, api.LRE, api.LRO, api.RLE, api.RLO, api.PDF, api.B, api.S, api.WS, api.LRI, api.RLI, api.FSI, api.PDI}) {
		t.Fatal(l)
	}
	if len(removed+parting+trailing+staying) != len(letters)+1 {
		t.Fatal(staying)
	}
	if l := marks(marked + "?"); !slices.Equal(l, []bracket.Mark{{Kind: 1, ID: 5}, {Kind: 2, ID: 5}, {Kind: 1, ID: 6}, {Kind: 2, ID: 6}, {}}) {
		t.Fatal(l)
	}
}

// P13.1: no classes, and nil.
func TestNothing(t *testing.T) {
	for _, l := range [][]api.Class{nil, {}, classes("R?L")[:0]} {
		for base := -1; base <= 1; base++ {
			if n, e := resolve.Base(l, base); n != max(base, 0) || e != api.OK {
				t.Errorf("%d: %d, %v", base, n, e)
			}
			for _, m := range [][]bracket.Mark{nil, {}, marks("<>")} {
				holdList(t, l, m, base, nil)
			}
		}
		for base := range 2 {
			for _, of := range [][]int{nil, {}, levels("12")[:0]} {
				if x, e := resolve.Line(l, of, [3]int{0, 0, base}); len(x) != 0 || e != api.OK {
					t.Errorf("%d: %v, %v", base, x, e)
				}
			}
		}
	}
}

// P13.1: 0 and 1 are told as they are; -1 is what the first strong makes, also ahead of, and behind, isolates and Bs.
func TestBase(t *testing.T) {
	for s, want := range map[string]int{
		"L": 0, "R": 1, "A": 1, "?": 0, "1": 0, "2": 0, "~": 0, "_$s": 0, "+#,'0": 0, "eoEO.": 0,
		"LR": 0, "RL": 1, "AL": 1, "LA": 0, "1R": 1, "2L": 0, "1_2A": 1, "_?A": 1, "'R": 1, "0R": 1, "~R": 1, "~L": 0, "12": 0,
		"EL": 0, "eR": 1, "OL": 0, "oR": 1, "E.R": 1, "eA.L": 1, "OL.R": 0,
		"(R)L": 0, "[L)R": 1, "{L)A": 1, "(R)": 0, "{A)?": 0, "[R)1": 0, "R(L)": 1, "L[R)": 0, "A{L": 1, "()R": 1, "[)L": 0,
		"(R": 0, "[R": 0, "{R": 0, "(R?": 0, "?[A": 0, "{RL": 0, ")R": 1, "))A": 1, ")L": 0, "(R))L": 0, "[L))R": 1,
		"([R)A)L": 0, "([L)L)R": 1, "([L)R": 0, "{{{R)R)R)L": 0, "([{L)L)L)A": 1, "([{L)L)A": 0, "(R)[R){R)L": 0, "(L)[L){L)R": 1,
		"$R": 0, "?$A": 0, "$L": 0, "R$L": 1, "L$R": 0, "A$": 1, "($R": 0, "(R$A": 0, "[L$)R": 0, "(L)$R": 0, "(L)R$L": 1, "1$R$R": 0,
	} {
		for k, want := range []int{want, 0, 1} {
			if n, e := resolve.Base(classes(s), k-1); n != want || e != api.OK {
				t.Errorf("%q of %d: %d, %v, want %d", s, k-1, n, e, want)
			}
		}
	}
	each("LRA?$([)", 5, func(s string) {
		n, e := resolve.Base(classes(s), -1)
		if want := strong(s, false); n != want || e != api.OK {
			t.Fatalf("%q: %d, %v, want %d", s, n, e, want)
		}
	})
	for _, number := range noClasses() {
		for s, want := range map[string]int{"~": 0, "~R": 1, "~L": 0, "(~R~)~A": 1} {
			if n, e := resolve.Base(with(s, number), -1); n != want || e != api.OK {
				t.Fatalf("%q with %d: %d, %v", s, number, n, e)
			}
		}
	}
}

// P13.1: a paragraph with the base -1 is one with the base that is made of it, that holds behind its Bs, too.
func TestBaseOfParagraph(t *testing.T) {
	for _, x := range []struct{ text, want string }{
		{"?", "0"}, {"?L", "00"}, {"?R", "11"}, {"?A", "11"}, {"1?R", "211"}, {"1?L", "000"}, {"R?L", "112"}, {"L?R", "001"},
		{"(R)?R", "13111"}, {"(R)?L", "03000"}, {"[L)?", "0200"}, {"?(R", "003"}, {"?[R", "001"},
		{"?R$?L", "11112"}, {"?L$?R", "00001"}, {"?$R?", "0010"}, {"$R", "01"}, {"R$", "11"}, {"L$R", "001"},
	} {
		hold(t, x.text, -1, x.want)
	}
	eachMixed(func(s string) {
		base, e := resolve.Base(classes(s), -1)
		if e != api.OK {
			t.Fatal(s, e)
		}
		want, e := resolve.Paragraph(classes(s), marks(s), base)
		if e != api.OK {
			t.Fatal(s, e)
		}
		holdList(t, classes(s), marks(s), -1, want)
	})
}

// P13.1, P1: bases that are none of the three, also with no classes.
func TestNoBase(t *testing.T) {
	for _, base := range noBases {
		for _, l := range [][]api.Class{nil, {}, classes("L"), classes("R"), classes("?"), classes("L<R>R"), classes("[L)R$A1~")} {
			if n, e := resolve.Base(l, base); n != 0 || e != api.ErrLevel {
				t.Errorf("%v of %d: %d, %v", l, base, n, e)
			}
			for _, m := range [][]bracket.Mark{nil, marks("L<R>R"), marks("<><><><><>")} {
				if x, e := resolve.Paragraph(l, m, base); len(x) != 0 || e != api.ErrLevel {
					t.Errorf("%v on %d: %v, %v", l, base, x, e)
				}
			}
		}
	}
}

// P13.1: letters, numbers and what stands between, in one sequence.
func TestPlain(t *testing.T) {
	holdBoth(t, []told{
		{"L", "0", "2"}, {"R", "1", "1"}, {"A", "1", "1"}, {"1", "0", "2"}, {"2", "2", "2"}, {"?", "0", "1"}, {"'", "0", "1"}, {"#", "0", "1"}, {",", "0", "1"}, {"+", "0", "1"}, {"$", "0", "1"}, {"s", "0", "1"}, {"_", "0", "1"}, {"(", "0", "1"}, {"[", "0", "1"}, {"{", "0", "1"}, {")", "0", "1"}, {"~", "0", "1"},
		{"L?L", "000", "222"}, {"R?R", "111", "111"}, {"L?R", "001", "211"}, {"R?L", "100", "112"}, {"A_1", "112", "112"}, {"R_1", "112", "112"}, {"L_1", "000", "222"},
		{"A1,1", "1222", "1222"}, {"A1+1", "1212", "1212"}, {"R1+1", "1222", "1222"}, {"L1+1", "0000", "2222"}, {"R1#", "122", "122"}, {"R#1?L", "12200", "12212"}, {"A#1", "112", "112"}, {"L2?2L", "02120", "22122"},
		{"R'", "11", "11"}, {"L'R", "001", "221"}, {"A'1", "112", "112"}, {"1'R", "001", "221"}, {"?L?R?1?", "0001120", "1211121"},
	})
}

// P13.1: no marks, nil, fewer marks than classes, and more.
func TestMarks(t *testing.T) {
	const s = `L<R>R/R\L`
	l, without, one, both := classes(s), levels("001111100"), levels("001011100"), levels("001011110")
	holdList(t, l, nil, 0, without)
	holdList(t, l, []bracket.Mark{}, 0, without)
	for k := range len(s) + 1 {
		want := both
		switch {
		case k <= 3:
			want = without
		case k <= 7:
			want = one
		}
		holdList(t, l, marks(s)[:k], 0, want)
	}
	holdList(t, l, append(marks(s), marks(`><><\/`)...), 0, both)
	holdList(t, l[:5], marks(s), 0, levels("00101"))
	holdList(t, l[:3], marks(s), 0, levels("001"))
	holdList(t, classes("R?L?L"), nil, 1, levels("11222"))
	holdList(t, classes("R?L?L"), marks(".<.>"), 1, levels("11212"))
	holdList(t, classes("L?L?R"), marks("./.")[:3], 1, levels("22211"))
	holdList(t, classes("L?L?R"), marks(`./.\`), 1, levels("22221"))
}

// P13.1: marks of all kinds, and with all IDs.
func TestKindsOfMarks(t *testing.T) {
	l, without, with := classes("L?R?R"), levels("00111"), levels("00101")
	for _, kind := range []int{math.MinInt, -2, -1, 0, 3, 4, 257, 258, 1<<32 + 1, 1<<32 + 2, math.MaxInt} {
		holdList(t, l, []bracket.Mark{{}, {Kind: kind, ID: 5}, {}, {Kind: 2, ID: 5}}, 0, without)
		holdList(t, l, []bracket.Mark{{}, {Kind: 1, ID: 5}, {}, {Kind: kind, ID: 5}}, 0, without)
	}
	for _, id := range []int{math.MinInt, -1, 0, 1, 5, math.MaxInt} {
		holdList(t, l, []bracket.Mark{{}, {Kind: 1, ID: id}, {}, {Kind: 2, ID: id}}, 0, with)
		holdList(t, l, []bracket.Mark{{}, {Kind: 1, ID: id}, {}, {Kind: 2, ID: id ^ 1<<40}}, 0, without)
	}
}

// P13.1: which marks count is told behind the rules for numbers: those of separators and signs that are left, and of an NSM behind an ON, too.
func TestWhatMarksCount(t *testing.T) {
	for _, c := range "?+#,~" {
		holdList(t, classes("L?R"+string(c)+"R"), marks(".<.>"), 0, levels("00101"))
		holdList(t, classes("L"+string(c)+"R?R"), marks(".<.>"), 0, levels("00101"))
	}
	for _, c := range "s_$)" {
		holdList(t, classes("L?R"+string(c)+"R"), marks(".<.>"), 0, levels("00111"))
		holdList(t, classes("L"+string(c)+"R?R"), marks(".<.>"), 0, levels("00111"))
	}
	holdList(t, classes("L?R?'R"), marks(".<..>"), 0, levels("001001"))
	holdList(t, classes("L?R0R"), marks(".<.>"), 0, levels("001-1"))
	holdList(t, classes("R1,1?L"), marks("<.>."), 0, levels("122200"))
	each("LR?'0_#", 4, func(s string) {
		for _, m := range []string{"<>", "<.>", ".<.>", "<..>", `</\>`, "<</>", "><", "<>>>"} {
			holdRead(t, s, m)
		}
	})
}

// P13.1: brackets in one sequence, with NSMs that go with them.
func TestBrackets(t *testing.T) {
	holdBoth(t, []told{
		{"<>", "00", "11"}, {"<R>", "010", "111"}, {"<L>", "000", "121"}, {"R<L>R", "10001", "11211"}, {"L<R>L", "00100", "21112"}, {"R<L>", "1000", "1121"}, {"L<R>", "0010", "2111"},
		{"R<R>L", "11110", "11112"}, {"L<L>R", "00001", "22221"}, {"R<1>L", "11210", "11212"}, {"R<2>L", "11210", "11212"}, {"L<1>R", "00001", "22221"}, {"L<2>R", "00201", "21211"},
		{"R<?>L", "10000", "11112"}, {`R</R\>L`, "1111110", "1111112"}, {`R</L\>R`, "1000001", "1112111"}, {`R<L/R>\R`, "10001001", "11211111"}, {"<<R>", "0010", "1111"}, {"L<R<R>L", "0011110", "2111112"},
		{"R<R>'L", "111110", "111112"}, {"L<L>'R", "000001", "222221"}, {"R<R''>''L", "111111110", "111111112"}, {"R<'R>L", "111110", "111112"}, {"R<R>'?'L", "11111000", "11111112"},
	})
}

// P13.1: embeddings and overrides, within one another, and what ends them.
func TestEmbeddings(t *testing.T) {
	holdBoth(t, []told{
		{"LERL.L", "0-12-0", "2-34-2"}, {"ReR.L", "1-3-0", "1-3-2"}, {"LOL.L", "0-1-0", "2-3-2"}, {"LoR.L", "0-2-0", "2-2-2"},
		{"EeR", "--3", "--5"}, {"Ee1", "--2", "--4"}, {"Oo1", "--2", "--4"}, {"O1?L_.", "-1111-", "-3333-"}, {"o1?R'", "-2222", "-2222"}, {"OA1", "-11", "-33"}, {"EE?", "--3", "--5"}, {"ee?", "--4", "--4"},
		{".L", "-0", "-2"}, {"..R", "--1", "--1"}, {"E..R", "---1", "---1"}, {"E.R", "--1", "--1"}, {"E.L", "--0", "--2"}, {"O.L", "--0", "--2"},
		// What is beside them has the sides of the greater level.
		{"?ER.?", "0-1-0", "1-3-1"}, {"?ER.1", "0-1-2", "1-3-2"}, {"?eR.?", "0-3-0", "1-3-1"}, {"?EL.1", "0-2-2", "1-4-2"}, {"?eL.1", "0-2-0", "1-2-2"}, {"ER.ER", "-1--1", "-3--3"}, {"EL.?ER", "-2-1-1", "-4-1-3"},
		// An override holds not in an isolate, but of its ends.
		{"O(L)L", "-1211", "-3433"}, {"o[R)R", "-2322", "-2322"}, {"O[L)L", "-1411", "-3633"}, {"o(1)A", "-2422", "-2422"},
		// What is overridden is no bracket, and no number.
		{"O<L>L.L", "-1111-0", "-3333-2"}, {"O1,1.1", "-111-2", "-333-2"},
	})
}

// P13.1: isolates within one another, with their ends and without.
func TestIsolates(t *testing.T) {
	holdBoth(t, []told{
		{"L(L)L", "00200", "22222"}, {"R[R)R", "11111", "11311"}, {"L[R)L", "00100", "22322"}, {"R(L)R", "11211", "11211"},
		{"()", "00", "11"}, {"[)", "00", "11"}, {"(L", "02", "12"}, {"[L", "02", "14"}, {"(R", "03", "13"}, {"[R", "01", "13"},
	})
	for s, want := range map[string]string{
		"L[R(L)R)L": "001121100", "L[R(L": "00112", "L(R[L": "00324", "[()": "011", "[[)": "011", "[))": "000", "R[)R": "1111", "L)R": "001", "R)R": "111", "[R)R)R": "010111",
		"{R": "01", "{L": "02", "{?": "02", "{1": "02", "[1": "02", "[2": "02", "[?": "01", "(2": "04", "(1": "02",
		"{(R)L)R": "0252201", "{[L)R)L": "0141100", "{R$L": "0100", "{$R)": "0010", "{AL)1": "01200", "{{R)L)R": "0232201",
	} {
		hold(t, s, 0, want)
	}
}

// P13.1: what hangs on what stands ahead of, and behind, an isolate; not on what is in it.
func TestAcrossIsolates(t *testing.T) {
	for s, want := range map[string]string{
		// Numbers and what goes with them.
		"A(L)1": "11212", "R(L)1": "11212", "L[R)1": "00100", "L[A)1": "00100", "[A1)1": "01200", "A[L)1L": "112120", "R(L)'R": "112111", "R?(L)'L": "1002000", "R1(L)#L": "1202000", "A(L(R)1)1": "112252212",
		// Neutral ones.
		"R?[L)?R": "1112111", "L?(R)?L": "0003000", "R?(R)?L": "1003000", "R?(L)?1": "1112112", "[?)": "010", "L[?)L": "00100", "R(?)R": "11211",
		// Brackets.
		"R<(L)>R": "1112111", "R<(L)L>R": "10020001", "L<(R)L>R": "00030001", "L<(R)R>R": "00030101", "R<[L>)L": "1002100", "<[)>R)L": "0000100", "<[>)R>L": "0010100",
		// Sequences that go on behind several isolates.
		"R[L)1(L)?2L": "11212121120", "L(R)(R)R": "00300301", "R(L)(L)R": "11211211",
	} {
		hold(t, s, 0, want)
	}
	hold(t, "L<(L>)R", 1, "2112211")
	hold(t, "L<[L)>R", 1, "2114111")
}

// P13.1: each sequence has its own marks, level and sides.
func TestOwn(t *testing.T) {
	for s, want := range map[string]string{
		// The marks are those of the places, not of as many ahead.
		"[?)L<R>R": "01000101", "0L<R>R": "-00101", "LE.<R>R": "0--0101", "L[?<R)<R>R": "0011100101",
		// A pair takes its own sequence's level and first side.
		"L[<R>L)<R>R": "00111200101", "E<L>R.R<L>": "-1211-1000", "R(<R>L)<R>L": "11232211110", "E<L>": "-121", "ER.<R>L": "-1-1110", "ER.?<R>": "-1-1111",
		// The sides are told of the sequence that is joined.
		"[R)?": "0100", "?[R)": "0010", "[R)1": "0100", "R[L)?": "10200", "ER.[L)?": "-1-0200", "ER.[L)?R": "-1-12111",
	} {
		hold(t, s, 0, want)
	}
}

// P13.1: what came as an NSM, and all classes that are resolved, are those that Prepare makes.
func TestCame(t *testing.T) {
	holdBoth(t, []told{
		// An NSM that is overridden goes with no bracket.
		{"eR<R>.o'.", "-3333--2-", "-3333--2-"}, {"eR<R>'.", "-33333-", "-33333-"}, {"EL<L>.O'.", "-2222--1-", "-4444--3-"}, {"EL<L>'.", "-22222-", "-44444-"},
		// One that became an ON, or what stands ahead of it, came as an NSM.
		{"R<R>'L", "111110", "111112"}, {"R<R'>''L", "11111110", "11111112"}, {"R(L)'<R>'L", "1121111110", "1121111112"},
	})
}

// P13.1: what is removed is on no level: alone, at the beginning, in the middle and at the end; and it parts nothing.
func TestRemoved(t *testing.T) {
	for _, c := range removed {
		for n := 1; n <= 4; n++ {
			row, gone := many(n, string(c)), many(n, "-")
			for base := -1; base <= 1; base++ {
				hold(t, row, base, gone)
			}
			hold(t, "L"+row, -1, "0"+gone)
			hold(t, "L"+row, 1, "2"+gone)
			hold(t, "R"+row, -1, "1"+gone)
		}
	}
	holdBoth(t, []told{
		{"0L", "-0", "-2"}, {"L0", "0-", "2-"}, {"L0L", "0-0", "2-2"}, {"L00R", "0--1", "2--1"}, {".L.", "-0-", "-2-"}, {"eL.", "-2-", "-2-"}, {"eoEO.0", "------", "------"}, {"L0?0R", "0-0-1", "2-1-1"},
		{"A10,01", "12-2-2", "12-2-2"}, {"R10#", "12-2", "12-2"}, {"R1E.#", "12--2", "12--2"}, {"R<0R0>L", "11-1-10", "11-1-12"}, {"R<R>0'L", "1111-10", "1111-12"}, {"0$0L", "-0-0", "-1-2"}, {"[0R0)0R", "0-1-0-1", "1-3-1-1"},
	})
}

// P13.1: behind a B all begins anew, but the base, and but what is resolved over it.
func TestSeveralBs(t *testing.T) {
	holdBoth(t, []told{
		{"$$", "00", "11"}, {"L$", "00", "21"}, {"$L", "00", "12"}, {"R$", "10", "11"}, {"L$L", "000", "222"}, {"R$L$R", "10001", "11211"}, {"L$R$1", "00112", "21112"}, {"R$1", "112", "112"}, {"A$1", "112", "112"}, {"L<$R>R", "000101", "211111"},
		{"[R$R", "0111", "1311"}, {"ER$R$", "-1110", "-3111"}, {"OL$L", "-100", "-312"}, {"(L$L)L", "020000", "122222"}, {"E$R", "-01", "-11"}, {"EL$L", "-200", "-412"},
	})
	hold(t, "R$L$R", -1, "11211")
	hold(t, "L$R$L", -1, "00100")
	hold(t, "?$R$L", -1, "00100")
}

// deepest is how deep some that are nested are, each on the next level of a side, from a base on.
func deepest(n, side, base int) int {
	level := base
	for range n {
		if next := above(level, side); next <= 125 {
			level = next
		}
	}
	return level
}

// P13.1: as deep as may be, and deeper.
func TestDeep(t *testing.T) {
	for n := 1; n <= 140; n++ {
		for base := range 2 {
			for _, x := range []struct {
				text       string
				side       int
				last, more string
			}{
				{"E", 1, "L", "."}, {"e", 0, "R", "."}, {"[", 1, "L", ")"}, {"(", 0, "R", ")"}, {"E", 1, "2", "."}, {"e", 0, "2", "."},
			} {
				level := deepest(n, x.side, base) + 1
				if x.last == "2" && x.side == 0 {
					level++ // a number is never on an odd level
				}
				s := many(n, x.text) + x.last
				l, e := resolve.Paragraph(classes(s), nil, base)
				if e != api.OK || len(l) != n+1 || l[n] != level {
					t.Fatalf("%q on %d: %v, %v, want %d at last", s, base, l, e, level)
				}
				s += many(n, x.more) + "L"
				l, e = resolve.Paragraph(classes(s), nil, base)
				if e != api.OK || len(l) != 2*n+2 || l[n] != level || l[2*n+1] != 2*base {
					t.Fatalf("%q on %d: %v, %v, want %d in the middle", s, base, l, e, level)
				}
				holdRead(t, s, s)
			}
		}
	}
	top := many(63, "E")
	for s, want := range map[string][]int{
		"L": {126}, "R": {125}, "1": {126}, "2": {126}, "?": {125}, "[L)": {125, 126, 125}, "(R)R": {125, 125, 125, 125}, "EL": {-1, 126}, "E.L": {-1, -1, 126}, "[E.L)": {125, -1, -1, 126, 125},
	} {
		holdList(t, classes(top+s), nil, 0, append(slices.Repeat([]int{-1}, 63), want...))
	}
}

// P13.1: numbers that are no class count as ON, with their marks.
func TestNoClass(t *testing.T) {
	for _, number := range noClasses() {
		for _, x := range []struct{ text, even, odd string }{
			{"~", "0", "1"}, {"L~L", "000", "222"}, {"R~R", "111", "111"}, {"L~R", "001", "211"}, {"R~1", "112", "112"}, {"[~)L", "0100", "1312"}, {"O~.L", "-1-0", "-3-2"},
		} {
			holdList(t, with(x.text, number), nil, 0, levels(x.even))
			holdList(t, with(x.text, number), nil, 1, levels(x.odd))
		}
		holdList(t, with("L~R~R", number), marks(".<.>."), 0, levels("00101"))
		holdList(t, with("L~R~R", number), nil, 0, levels("00111"))
	}
}

// P13.1: all texts up to some length, on all bases, as they are read another way; and long ones, with marks of their own and with those of others.
func TestAllShort(t *testing.T) {
	same := func(s string) { holdRead(t, s, s) }
	each(letters+string(other)+marked, 3, same)
	each("LR1?<>", 5, same)
	each("LR[()", 6, same)
	each("LR'<>", 6, same)
	each("LeO.R0", 5, same)
	each("LR$[)E", 5, same)
	each("A12,#", 5, same)
	each("{R)L(", 6, same)
	eachMixed(same)
	eachMixed(func(s string) {
		for at := range 3 {
			holdRead(t, s, mixed(marked+"....", len(s)*(at+1)/2, len(s)+at))
		}
	})
}

// P13.2: with the base 0, L, and neutral classes, are on the level 0 everywhere; with the base 1, R, and these, on 1.
func TestPlainTexts(t *testing.T) {
	plain := func(letter string, base int) func(string) {
		return func(s string) {
			hold(t, s, base, many(len(s), digits[base:base+1]))
			holdList(t, classes(s), nil, base, levels(many(len(s), digits[base:base+1])))
			if strings.HasPrefix(s, letter) {
				hold(t, s, -1, many(len(s), digits[base:base+1]))
			}
		}
	}
	for base, letter := range []string{"L", "R"} {
		each(letter+"$s_?)~", 5, plain(letter, base))
		each(letter+"_)"+marked, 5, plain(letter, base))
		// Isolates that hold nothing are neutral, too.
		for _, s := range []string{"(", "[", "{", "()", "[)", "{)", "x(", "x[", "x{", "x()x", "?[)x", "x{)_", "x(){)[)x", "x($x", "[$x)", "{$?"} {
			plain(letter, base)(strings.ReplaceAll(s, "x", letter))
		}
		for at := range 60 {
			plain(letter, base)(mixed(letter+"$s_?)"+marked, 20*at, at+1))
			plain(letter, base)(mixed(letter+letter+letter+"?<>", 20*at, at+1))
		}
	}
	// What stands in isolates is deeper.
	hold(t, "L(L)[?){?)L", 0, "00200100200")
	hold(t, "R[R){R)(?)R", 1, "11311311211")
}

// P13.3: levels are from the base's up to 127, but of those that are removed.
func TestNearTheBase(t *testing.T) {
	near := func(s string) {
		for base := -1; base <= 1; base++ {
			least, e := resolve.Base(classes(s), base)
			if e != api.OK {
				t.Fatal(s, base, e)
			}
			l, e := resolve.Paragraph(classes(s), marks(s), base)
			if e != api.OK || len(l) != len(s) {
				t.Fatalf("%q on %d: %v, %v", s, base, l, e)
			}
			for i, level := range l {
				gone := strings.IndexByte(removed, s[i]) >= 0
				if gone && level != -1 || !gone && (level < least || level > 127) {
					t.Fatalf("%q on %d: %d at %d", s, base, level, i)
				}
			}
		}
	}
	each(letters+string(other), 3, near)
	each("LR1[.E0$", 5, near)
	eachMixed(near)
	for at := range 30 {
		for _, of := range []string{"EEEEEEEEEEL", "eeeeeeeeeR", "EeOo[(12LR", "[[[[[[[(((((L1R2", "eEeEeEeE.R2L1", "((({{{[[[L)R", "OE[E[E[E[L12$"} {
			near(mixed(of, 40*at, at+1))
		}
	}
}

// P13.1: a whole paragraph is a line, whose levels it keeps but at its ends.
func TestWholeLine(t *testing.T) {
	for _, x := range []struct{ text, of, want string }{
		{"L", "3", "3"}, {"LR", "34", "34"}, {"L_R", "345", "345"}, {"L?1#", "3456", "3456"},
		{"R__", "566", "5bb"}, {"L_s_R", "34567", "3bb67"}, {"$", "4", "b"}, {"s", "4", "b"}, {"_", "4", "b"}, {"L_$_R_s_", "34567890", "3bb67bbb"},
	} {
		holdWhole(t, x.text, x.of, x.want)
	}
	// Levels that a paragraph has.
	l := classes("R_sR_0R)0_")
	of, _ := resolve.Paragraph(l, nil, 0)
	for base, want := range []string{"1001111000", "1111111111"} {
		if x, e := resolve.Line(l, of, [3]int{0, 10, base}); e != api.OK || !slices.Equal(x, levels(want)) {
			t.Error(x, e)
		}
	}
}

// P13.1: an empty line at each place, and a line of each scalar alone.
func TestShortLines(t *testing.T) {
	for i := range 6 {
		holdPart(t, "L_s0R", "345-6", i, i, "")
	}
	all := letters + string(other)
	for i, c := range all {
		want := "5"
		if !strings.ContainsRune(staying, c) {
			want = "b"
		}
		holdPart(t, all, many(len(all), "5"), i, i+1, want)
		holdWhole(t, string(c), "5", want)
		holdWhole(t, string(c), "-", strings.Replace(want, "5", "-", 1))
	}
}

// P13.1: S and B have the base; so has what goes with them ahead of them, and at the line's end, also where it fills the line.
func TestLineEnds(t *testing.T) {
	each(trailing+removed, 3, func(s string) {
		of, bases := many(len(s), "7"), many(len(s), "b")
		for _, part := range parting {
			p := string(part)
			holdWhole(t, "L"+s+p, "3"+of+"4", "3"+bases+"b")
			holdWhole(t, "L"+s+p+"R", "3"+of+"45", "3"+bases+"b5")
			holdWhole(t, s+p+"?", of+"45", bases+"b5")
			holdWhole(t, s+p, of+"4", bases+"b")
			holdWhole(t, s+p+s+p, of+"4"+of+"4", bases+"b"+bases+"b")
			holdWhole(t, "L"+s+p+"s$"+s, "3"+of+"466"+of, "3"+bases+"bbb"+bases)
		}
		holdWhole(t, "L"+s, "3"+of, "3"+bases)
		holdWhole(t, s, of, bases)
		holdWhole(t, "L"+s+"?"+s, "3"+of+"4"+of, "3"+kept(s, "3")+"4"+bases)
	})
	holdWhole(t, "ss", "34", "bb")
	holdWhole(t, "s$s$", "3456", "bbbb")
	holdWhole(t, "L$sR", "3456", "3bb6")
}

// kept is the levels of a text that keeps them, each 7, behind a scalar of a level: what is removed has that of what stands ahead.
func kept(s, level string) string {
	all := ""
	for _, c := range s {
		if !strings.ContainsRune(removed, c) {
			level = "7"
		}
		all += level
	}
	return all
}

// P13.1: what goes with S, B and the line's end elsewhere has not the base; every other class parts it from them.
func TestLineMiddle(t *testing.T) {
	for _, c := range staying {
		x := string(c)
		holdWhole(t, "_"+x, "34", "34")
		holdWhole(t, "_"+x+"s", "345", "34b")
		holdWhole(t, "_"+x+"_", "345", "34b")
		holdWhole(t, "_("+x+")_", "34567", "345bb")
		holdWhole(t, "_"+x+"_s"+x+"_", "345678", "34bb7b")
		holdWhole(t, "s_"+x, "345", "b45")
		holdWhole(t, "0"+x, "-5", "b5")
		holdWhole(t, x+"0"+x, "3-5", "335")
	}
	for _, c := range trailing {
		x := string(c)
		holdWhole(t, x+"L", "34", "34")
		holdWhole(t, "L"+x+"R", "345", "345")
		holdWhole(t, "s"+x+"R", "345", "b45")
		holdWhole(t, x+"0R", "3-4", "334")
		holdWhole(t, x+"0"+x+"R", "3-56", "3356")
	}
	for _, number := range noClasses() {
		l := with("_~_s_~_", number)
		if x, e := resolve.Line(l, levels("3456789"), [3]int{0, 7, 1}); e != api.OK || !slices.Equal(x, levels("3411781")) {
			t.Error(number, x, e)
		}
	}
}

// P13.1: what is removed has the base at a line's beginning, else the level of what stands ahead of it, as that is by then.
func TestRemovedOnLines(t *testing.T) {
	for _, c := range removed {
		for _, x := range []struct{ text, of, want string }{
			{"x", "-", "b"}, {"xR", "-5", "b5"}, {"xxR", "--5", "bb5"}, {"x_R", "-45", "b45"}, {"x_xR", "-4-5", "b445"},
			{"LxR", "3-5", "335"}, {"LxxxR", "3---5", "33335"}, {"LRxR", "34-5", "3445"}, {"LxRxL", "3-4-5", "33445"}, {"Lx_R", "3-45", "3345"}, {"L_xR", "34-5", "3445"},
			{"sxR", "4-5", "bb5"}, {"$xxR", "4--5", "bbb5"}, {"sx_R", "4-56", "bb56"}, {"s_xR", "45-6", "b556"}, {"L_sxxR", "345--6", "3bbbb6"},
			{"Lx", "3-", "3b"}, {"Lxx", "3--", "3bb"}, {"Lxs", "3-4", "3bb"}, {"L_x", "34-", "3bb"}, {"Lx_xsxR", "3-4-5-6", "3bbbbb6"}, {"LxRx", "3-4-", "334b"},
			// It is told by its class, whatever level it was handed in with.
			{"LxR", "395", "335"}, {"xR", "95", "b5"}, {"Lx", "39", "3b"}, {"sxxR", "4895", "bbb5"},
		} {
			holdWhole(t, strings.ReplaceAll(x.text, "x", string(c)), x.of, x.want)
		}
	}
	each(removed, 4, func(s string) {
		gone := many(len(s), "-")
		holdWhole(t, s+"R", gone+"5", many(len(s), "b")+"5")
		holdWhole(t, "L"+s+"R", "3"+gone+"5", many(len(s)+1, "3")+"5")
		holdWhole(t, "s"+s+"R", "3"+gone+"5", many(len(s)+1, "b")+"5")
		holdWhole(t, "L"+s, "3"+gone, "3"+many(len(s), "b"))
	})
}

// P13.1: a line knows nothing of what is ahead of it, or behind it.
func TestPartsOfParagraphs(t *testing.T) {
	for _, x := range []struct {
		text, of string
		from, to int
		want     string
	}{
		{"R_L_R", "12345", 0, 2, "1b"}, {"R_L_R", "12345", 1, 3, "23"}, {"R_L_R", "12345", 1, 2, "b"}, {"R_L_R", "12345", 2, 4, "3b"}, {"R_L_R", "12345", 3, 5, "45"}, {"R_L_R", "12345", 0, 5, "12345"},
		{"L_s", "345", 0, 2, "3b"}, {"L_s", "345", 1, 3, "bb"}, {"L_s", "345", 2, 3, "b"}, {"LR_", "345", 0, 2, "34"},
		{"L0R", "3-5", 1, 3, "b5"}, {"L0R", "3-5", 1, 2, "b"}, {"L0R", "3-5", 0, 2, "3b"}, {"L00R", "3--5", 2, 4, "b5"}, {"L00R", "3--5", 1, 4, "bb5"}, {"s0R", "4-5", 1, 3, "b5"},
		{"L0_R", "3-45", 1, 4, "b45"}, {"L0_R", "3-45", 1, 3, "bb"}, {"L0_R", "3-45", 0, 3, "3bb"}, {"L([R))L", "3456789", 1, 4, "456"}, {"L([R))L", "3456789", 0, 3, "3bb"}, {"L([R))L", "3456789", 3, 6, "6bb"},
	} {
		holdPart(t, x.text, x.of, x.from, x.to, x.want)
	}
}

// P13.1: what goes with a line's end is told by the classes as they came, whatever an override made of them.
func TestClassesAsTheyCame(t *testing.T) {
	for _, x := range []struct{ text, nested, want string }{
		{"O_", "-1", "bb"}, {"OLsL.", "-111-", "b1b1b"}, {"OL_sL", "-1111", "b1bb1"}, {"OL_L", "-111", "b111"}, {"oR(R)_", "-22522", "b225bb"}, {"OL[", "-11", "b1b"}, {"OL0L", "-1-1", "b111"}, {"OL?", "-11", "b11"},
	} {
		hold(t, x.text, 0, x.nested)
		holdWhole(t, x.text, x.nested, x.want)
	}
}

// P13.1: all lines of all texts up to some length, with levels that rise, and with those of their paragraphs, as they are read another way; and of long ones.
func TestAllLines(t *testing.T) {
	both := func(s string) {
		holdLines(t, s, rising(s))
		of, e := resolve.Paragraph(classes(s), marks(s), -1)
		if e != api.OK {
			t.Fatal(s, e)
		}
		holdLines(t, s, of)
	}
	each(letters+string(other), 3, both)
	each("Ls_0", 5, both)
	each("R$(E?", 4, both)
	each(")0R", 6, both)
	for _, of := range []string{letters + string(other), "LR_s0", "L____s", "L0000s_", "_0)L", "R(0$", "L0"} {
		for at := range 8 {
			both(mixed(of, 12+at, at+1))
		}
	}
}

// noLine holds that what is handed in to Line is wrong.
func noLine(t *testing.T, l []api.Class, of []int, line [3]int) {
	t.Helper()
	if x, e := resolve.Line(l, of, line); e != api.ErrLevel || len(x) != 0 {
		t.Errorf("%v of %v, %v: %v, %v", l, of, line, x, e)
	}
}

// P13.1, P1: fewer levels than classes, and more; lines that are none; bases that are neither 0 nor 1.
func TestNoLine(t *testing.T) {
	l, of := classes("L_s0R?"), levels("345-67")
	for n := range len(l) + 1 {
		for m := range len(of) + 1 {
			for from := -2; from <= n+2; from++ {
				for to := -2; to <= n+2; to++ {
					for base := -2; base <= 3; base++ {
						if n == m && 0 <= from && from <= to && to <= n && (base == 0 || base == 1) {
							x, e := resolve.Line(l[:n], of[:m], [3]int{from, to, base})
							if e != api.OK || len(x) != to-from {
								t.Errorf("%d from %d to %d: %v, %v", n, from, to, x, e)
							}
							continue
						}
						noLine(t, l[:n], of[:m], [3]int{from, to, base})
					}
				}
			}
		}
	}
	for _, far := range noBases {
		if far < 0 {
			noLine(t, l, of, [3]int{far, 2, 0})
			noLine(t, l, of, [3]int{0, far, 0})
			noLine(t, l, of, [3]int{far, far, 1})
		} else if far > len(l) {
			noLine(t, l, of, [3]int{0, far, 0})
			noLine(t, l, of, [3]int{far, 2, 1})
			noLine(t, l, of, [3]int{far, far, 0})
		}
		noLine(t, l, of, [3]int{0, 2, far})
		noLine(t, l, of, [3]int{3, 3, far})
		noLine(t, nil, nil, [3]int{0, 0, far})
	}
	noLine(t, l, of, [3]int{0, 2, -1})
	noLine(t, l, of, [3]int{math.MinInt, math.MaxInt, 0})
	noLine(t, l, of, [3]int{math.MaxInt, math.MinInt, 0})
	noLine(t, nil, nil, [3]int{0, 1, 0})
	noLine(t, nil, nil, [3]int{-1, 0, 0})
	noLine(t, nil, levels("1"), [3]int{0, 0, 0})
	noLine(t, classes("L"), nil, [3]int{0, 0, 0})
}

// P1: any numbers may be levels, and are kept where a line keeps them.
func TestAnyLevels(t *testing.T) {
	l := classes("LR_0L~s")
	x, e := resolve.Line(l, []int{math.MinInt, math.MaxInt, -1, -1, -2, 128, 5}, [3]int{0, 7, 1})
	if e != api.OK || !slices.Equal(x, []int{math.MinInt, math.MaxInt, -1, -1, -2, 128, 1}) {
		t.Fatal(x, e)
	}
}

// P13.1, P1: long lists, gone through at once.
func TestLong(t *testing.T) {
	const n = 100000
	for _, x := range []struct {
		text, want string
		base       int
	}{
		{many(n, "L"), many(n, "0"), 0}, {many(n, "R?1"), many(n, "112"), 0}, {many(n, "?"), many(n, "1"), 1}, {many(n, "[L)"), many(n, "020"), 0}, {many(n, "(R)"), many(n, "131"), 1},
		{many(n, "<L>"), many(n, "000"), 0}, {many(n, "R<1>"), many(n, "1121"), 1}, {many(n, "<") + many(n, ">"), many(2*n, "0"), 0}, {many(n, "$R"), "0" + many(n-1, "11") + "1", 0}, {many(n, "0E.eo"), many(n, "-----"), -1}, {many(n, "ER."), many(n, "-1-"), 0},
	} {
		hold(t, x.text, x.base, x.want)
	}
	for _, s := range []string{many(n, "["), many(n, "{") + "R", many(n, "(") + many(n, ")"), many(n, "E"), many(n, "R<R'"), many(n, "eR<L>.")} {
		if l, e := resolve.Paragraph(classes(s), marks(s), -1); e != api.OK || len(l) != len(s) {
			t.Fatalf("%.20q and on: %v", s, e)
		}
	}
	for _, x := range []struct{ text, of, want string }{
		{many(n, "_"), many(n, "3"), many(n, "b")}, {many(n, "0"), many(n, "-"), many(n, "b")}, {"L" + many(n, "0") + "R", "3" + many(n, "-") + "4", many(n+1, "3") + "4"}, {many(n, "L_"), many(n, "34"), many(n-1, "34") + "3b"}, {many(n, "L_s"), many(n, "345"), many(n, "3bb")},
	} {
		holdWhole(t, x.text, x.of, x.want)
	}
}

// P2: what is handed in is not written into; what lies behind its length is neither read nor written.
func TestGivenStays(t *testing.T) {
	const s = "0_R<L'>1[L,_)(oR.?s_E1A$R[L~/0R\\'_"
	l, m := classes(s), marks(s)
	whole, _ := resolve.Paragraph(l, m, 0)
	for cut := range len(s) + 1 {
		for base := -1; base <= 1; base++ {
			want, least := read(s[:cut], s[:cut], base), max(base, 0)
			for _, behind := range []string{"", "L", "R'", ">", "1", ")A", "$R"} {
				l, m := append(classes(s[:cut]), classes(behind)...), append(marks(s[:cut]), marks(behind)...)
				of := append(slices.Clone(want), slices.Repeat([]int{3}, len(behind))...)
				keptClasses, keptMarks, keptLevels := slices.Clone(l), slices.Clone(m), slices.Clone(of)
				holdList(t, l[:cut], m[:cut], base, want)
				x, e := resolve.Line(l[:cut], of[:cut], [3]int{cut / 3, cut, least})
				if e != api.OK || !slices.Equal(x, readLine(s[cut/3:cut], want[cut/3:], least)) {
					t.Fatalf("%q: %v, %v", s[:cut], x, e)
				}
				noLine(t, l[:cut], of[:cut], [3]int{0, cut + 1, least})
				if !slices.Equal(l, keptClasses) || !slices.Equal(m, keptMarks) || !slices.Equal(of, keptLevels) {
					t.Fatalf("%q, behind it %q: what is handed in is written into", s[:cut], behind)
				}
			}
			if n, e := resolve.Base(l[:cut], base); e != api.OK || n != max(base, 0) && base >= 0 {
				t.Fatal(n, e)
			}
		}
	}
	if again, _ := resolve.Paragraph(l, m, 0); !slices.Equal(l, classes(s)) || !slices.Equal(m, marks(s)) || !slices.Equal(again, whole) {
		t.Fatal("what is handed in is written into")
	}
}

// P2: what is answered shares no memory with what was handed in, or with another answer.
func TestNewMemory(t *testing.T) {
	for _, s := range []string{"", "L", "0", "?", "L_R", "R<R>'L", letters + string(other) + marked, many(50, "R?1[L_)$0")} {
		l, m := classes(s), marks(s)
		one, _ := resolve.Paragraph(l, m, 0)
		two, _ := resolve.Paragraph(l, m, 0)
		want := slices.Clone(two)
		for i := range one[:cap(one)] {
			one[:cap(one)][i] = 77
		}
		if !slices.Equal(two, want) || !slices.Equal(l, classes(s)) || !slices.Equal(m, marks(s)) {
			t.Fatalf("%q: memory of a paragraph is shared", s)
		}
		whole := [3]int{0, len(l), 1}
		first, _ := resolve.Line(l, two, whole)
		second, _ := resolve.Line(l, two, whole)
		seen := slices.Clone(second)
		for i := range first[:cap(first)] {
			first[:cap(first)][i] = 88
		}
		if !slices.Equal(second, seen) || !slices.Equal(two, want) || !slices.Equal(l, classes(s)) {
			t.Fatalf("%q: memory of a line is shared", s)
		}
		for i := range l {
			l[i], m[i], two[i] = -9, bracket.Mark{Kind: 3}, 99
		}
		if !slices.Equal(second, seen) {
			t.Fatalf("%q: what was handed in is kept", s)
		}
		holdList(t, classes(s), marks(s), 0, want)
	}
}

// P2: lists that are changed between two calls are read afresh; a call behind another one, or behind an error, answers as if there had been none.
func TestChanged(t *testing.T) {
	l, m := classes("L?R?R_"), marks(".<.>")
	first, e := resolve.Paragraph(l, m, 0)
	if e != api.OK || !slices.Equal(first, levels("001010")) {
		t.Fatal(first, e)
	}
	line, e := resolve.Line(l, first, [3]int{4, 6, 1})
	if e != api.OK || !slices.Equal(line, levels("11")) {
		t.Fatal(line, e)
	}
	m[1].Kind = 0
	holdList(t, l, m, 0, levels("001110"))
	m[1].Kind = 1
	holdList(t, l, m, 0, levels("001010"))
	holdList(t, l, m, 1, levels("211111"))
	holdList(t, l, m, -1, levels("001010"))
	l[0] = api.R
	holdList(t, l, m, 0, levels("111110"))
	holdList(t, l, m, -1, levels("111111"))
	if x, e := resolve.Paragraph(l, m, 2); len(x) != 0 || e != api.ErrLevel {
		t.Fatal(x, e)
	}
	noLine(t, l, first, [3]int{0, 7, 0})
	if n, e := resolve.Base(l, -1); n != 1 || e != api.OK {
		t.Fatal(n, e)
	}
	l[0] = api.L
	if n, e := resolve.Base(l, -1); n != 0 || e != api.OK {
		t.Fatal(n, e)
	}
	first[4] = 7
	if x, e := resolve.Line(l, first, [3]int{4, 6, 0}); e != api.OK || !slices.Equal(x, levels("70")) {
		t.Fatal(x, e)
	}
	if !slices.Equal(line, levels("11")) {
		t.Fatal(line)
	}
}
