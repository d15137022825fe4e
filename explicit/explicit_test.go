package explicit_test

import (
	"math"
	"regexp"
	"slices"
	"strings"
	"testing"

	"frisket/api"
	"frisket/explicit"
)

// letters has one for each class, in the order of their numbers: e, o, E and O for LRE, LRO, RLE and RLO, a point for PDF, and brackets for LRI, RLI, FSI and PDI.
const letters = "LRA1+#2,'0$s_?eoEO.([{)"

// removed has those that are.
const removed = "eoEO.0"

// noClasses is numbers that are no class.
var noClasses = []int{math.MinInt, math.MinInt32, -1 << 20, -256, -23, -2, -1, 23, 24, 99, 255, 256, 257, 256 + 22, 1 << 16, 1 << 32, math.MaxInt32, math.MaxInt - 1, math.MaxInt}

// bases is all that may be.
var bases = []int{-1, 0, 1}

// noBases is numbers that are no base.
var noBases = []int{math.MinInt, math.MinInt + 1, -1 << 32, -257, -256, -255, -125, -3, -2, 2, 3, 4, 124, 125, 126, 255, 256, 257, 1 << 31, 1 << 32, 1<<32 + 1, math.MaxInt - 1, math.MaxInt}

// classes is those of letters.
func classes(s string) []api.Class {
	l := make([]api.Class, len(s))
	for i := range s {
		l[i] = api.Class(strings.IndexByte(letters, s[i]))
	}
	return l
}

// each hands out all texts of some letters, up to a length.
func each(of string, most int, do func(string)) {
	var grow func(b []byte)
	grow = func(b []byte) {
		do(string(b))
		if len(b) == most {
			return
		}
		for i := range of {
			grow(append(b, of[i]))
		}
	}
	grow(make([]byte, 0, most))
}

// digits is levels of one figure, - those that are removed.
func digits(s string) []int {
	l := make([]int, len(s))
	for i := range s {
		l[i] = -1
		if s[i] != '-' {
			l[i] = int(s[i] - '0')
		}
	}
	return l
}

// isolated is an isolate and its end, with none that is left between; embedded an embedding and its PDF likewise.
var (
	isolated = regexp.MustCompile(`[([{][^([{)$]*\)`)
	embedded = regexp.MustCompile(`[eoEO][^([{eoEO.$]*\.`)
)

// blanked is a text in which what a pattern finds is blanked, till it finds nothing more.
func blanked(is *regexp.Regexp, s string) string {
	for is.MatchString(s) {
		s = is.ReplaceAllStringFunc(s, func(found string) string { return strings.Repeat("~", len(found)) })
	}
	return s
}

// upTo is what stands ahead of the first of some letters.
func upTo(s, of string) string {
	if i := strings.IndexAny(s, of); i >= 0 {
		return s[:i]
	}
	return s
}

// readEnd is where the isolate ends that begins at a place.
func readEnd(s string, i int) int {
	tail := blanked(isolated, upTo(s[i+1:], "$"))
	if end := strings.IndexByte(tail, ')'); end >= 0 {
		return i + 1 + end
	}
	return -1
}

// readStrong is what the first strong of a text makes.
func readStrong(s string) int {
	s = upTo(blanked(isolated, upTo(s, "$")), "([{")
	if i := strings.IndexAny(s, "LRA"); i >= 0 && s[i] != 'L' {
		return 1
	}
	return 0
}

// readOpen is the places of all that stands open at the end of a piece of a text.
func readOpen(s string) []int {
	from := strings.LastIndexByte(s, '$') + 1
	s = blanked(embedded, blanked(isolated, s[from:]))
	var open []int
	for i := range s {
		if strings.IndexByte("eoEO([{", s[i]) >= 0 {
			open = append(open, from+i)
		}
	}
	return open
}

// readNested is the level, and the override, within what stands open; what is too deep keeps those behind it out, too.
func readNested(s string, open []int, base int) (int, byte) {
	level, over := base, byte(0)
	for _, i := range open {
		c := s[i]
		if c == '{' {
			inner := s[i+1:]
			if end := readEnd(s, i); end >= 0 {
				inner = s[i+1 : end]
			}
			c = "(["[readStrong(inner)]
		}
		next := level + 1
		if odd := strings.IndexByte("EO[", c) >= 0; odd != (next%2 == 1) {
			next++
		}
		if next > 125 {
			return level, over
		}
		level, over = next, 0
		switch c {
		case 'o':
			over = 'L'
		case 'O':
			over = 'R'
		}
	}
	return level, over
}

// read is a scalar's level, and its class, of each base, told from the text alone.
func read(s string, i int) ([3]int, [3]byte) {
	levels, as := [3]int{-1, -1, -1}, [3]byte{s[i], s[i], s[i]}
	if strings.IndexByte(removed, s[i]) >= 0 {
		return levels, as
	}
	ahead := s[:i]
	if s[i] == ')' || s[i] == '$' {
		ahead = s[:i+1]
	}
	open := readOpen(ahead)
	for k, base := range bases {
		if base < 0 {
			base = readStrong(s)
		}
		level, over := readNested(s, open, base)
		levels[k] = level
		if over != 0 {
			as[k] = over
		}
	}
	return levels, as
}

// hold holds a list's levels and classes.
func hold(t *testing.T, s string, l []api.Class, base int, levels []int, as string) {
	t.Helper()
	gotLevels, gotAs, e := explicit.Levels(l, base)
	if e != api.OK || !slices.Equal(gotLevels, levels) {
		t.Fatalf("levels of %q, base %d: %v, %v, want %v", s, base, gotLevels, e, levels)
	}
	if !slices.Equal(gotAs, classes(as)) {
		t.Fatalf("classes of %q, base %d: %v, want %q", s, base, gotAs, as)
	}
}

// holdEnds holds a list's Match and Strong.
func holdEnds(t *testing.T, s string, l []api.Class, ends []int, strong int) {
	t.Helper()
	if got := explicit.Match(l); !slices.Equal(got, ends) {
		t.Fatalf("Match of %q: %v, want %v", s, got, ends)
	}
	if got := explicit.Strong(l); got != strong {
		t.Fatalf("Strong of %q: %d, want %d", s, got, strong)
	}
}

// holdRead holds all that is told of a list against what is read of a text.
func holdRead(t *testing.T, s string, l []api.Class) {
	t.Helper()
	ends := make([]int, len(s))
	var levels [3][]int
	var as [3][]byte
	for i := range s {
		ends[i] = -1
		if strings.IndexByte("([{", s[i]) >= 0 {
			ends[i] = readEnd(s, i)
		}
		of, is := read(s, i)
		for k := range bases {
			levels[k], as[k] = append(levels[k], of[k]), append(as[k], is[k])
		}
	}
	holdEnds(t, s, l, ends, readStrong(s))
	for k, base := range bases {
		hold(t, s, l, base, levels[k], string(as[k]))
	}
}

// P8.1: the numbers of the classes are those of the letters.
func TestNumbers(t *testing.T) {
	want := []api.Class{api.L, api.R, api.AL, api.EN, api.ES, api.ET, api.AN, api.CS, api.NSM, api.BN, api.B, api.S, api.WS, api.ON, api.LRE, api.LRO, api.RLE, api.RLO, api.PDF, api.LRI, api.RLI, api.FSI, api.PDI}
	if l := classes(letters); !slices.Equal(l, want) {
		t.Fatal(l)
	}
	if api.MaxLevel != 125 {
		t.Fatal(api.MaxLevel)
	}
}

// P8.1: no classes, and nil.
func TestNothing(t *testing.T) {
	for _, l := range [][]api.Class{nil, {}} {
		holdEnds(t, "", l, nil, 0)
		for _, base := range bases {
			hold(t, "", l, base, nil, "")
		}
	}
}

// P8.1: each class alone, with each base.
func TestAlone(t *testing.T) {
	for i := range letters {
		s := letters[i : i+1]
		strong := 0
		if s == "R" || s == "A" {
			strong = 1
		}
		holdEnds(t, s, classes(s), []int{-1}, strong)
		for _, base := range bases {
			level := base
			switch {
			case strings.Contains(removed, s):
				level = -1
			case base < 0:
				level = strong
			}
			hold(t, s, classes(s), base, []int{level}, s)
		}
	}
}

// P8.1: each class behind each one, written out: the levels, and the classes, of the second.
func TestTwo(t *testing.T) {
	for _, x := range []struct {
		first, even, odd, as string // behind which; with the base 0, and 1
	}{
		//  LRA1+#2,'0$s_?eoEO.([{)
		{"LRA1+#2,'0$s_?.)",
			"000000000-0000-----0000",
			"111111111-1111-----1111",
			letters},
		{"e",
			"222222222-0222-----2222",
			"222222222-1222-----2222",
			letters},
		{"o",
			"222222222-0222-----2222",
			"222222222-1222-----2222",
			"LLLLLLLLL0$LLLeoEO.LLLL"},
		{"E",
			"111111111-0111-----1111",
			"333333333-1333-----3333",
			letters},
		{"O",
			"111111111-0111-----1111",
			"333333333-1333-----3333",
			"RRRRRRRRR0$RRReoEO.RRRR"},
		{"(",
			"222222222-0222-----2220",
			"222222222-1222-----2221",
			letters},
		{"[",
			"111111111-0111-----1110",
			"333333333-1333-----3331",
			letters},
		{"{",
			"211222222-0222-----2220",
			"233222222-1222-----2221",
			letters},
	} {
		for i := range x.first {
			for k := range letters {
				a, b := x.first[i:i+1], letters[k:k+1]
				first := []int{0, 1}
				if strings.Contains(removed, a) {
					first = []int{-1, -1}
				}
				hold(t, a+b, classes(a+b), 0, []int{first[0], digits(x.even)[k]}, a+x.as[k:k+1])
				hold(t, a+b, classes(a+b), 1, []int{first[1], digits(x.odd)[k]}, a+x.as[k:k+1])
				ends := []int{-1, -1}
				if strings.Contains("([{", a) && b == ")" {
					ends[0] = 1
				}
				if got := explicit.Match(classes(a + b)); !slices.Equal(got, ends) {
					t.Errorf("Match of %q: %v", a+b, got)
				}
			}
		}
	}
}

// P8.1: where isolates end, written out: - is nowhere, and of what begins none.
func TestMatch(t *testing.T) {
	for _, x := range []struct{ text, ends string }{
		{"(L)", "2--"},
		{"[R)", "2--"},
		{"{A)", "2--"},
		{"()()", "1-3-"},
		// Within one another.
		{"([{)))", "543---"},
		{"([)[))", "52-4--"},
		{"{(L)R)", "53----"},
		// Without an end.
		{"(", "-"},
		{"([{", "---"},
		{"(L)[R", "2----"},
		// With an end that another one takes.
		{"([)", "-2-"},
		{"({[)", "--3-"},
		{"([)(", "-2--"},
		{"([)[)", "-2-4-"},
		{"{(L)", "-3--"},
		{"([))", "32--"},
		// With a B between.
		{"($)", "---"},
		{"(L$R)", "-----"},
		{"([)$)", "-2---"},
		{"([$))", "-----"},
		{"[$()", "--3-"},
		{"[$())", "--3--"},
		{"()$()", "1--4-"},
		// Ends of none.
		{")", "-"},
		{"))(", "---"},
		{")[)", "-2-"},
		{"[))", "1--"},
		{"[))()", "1--4-"},
		{"$)(", "---"},
		// Embeddings part nothing.
		{"(E)", "2--"},
		{"O(.)", "-3--"},
		{"(e[.)o)", "6-4----"},
		{"(.).", "2---"},
	} {
		if got := explicit.Match(classes(x.text)); !slices.Equal(got, digits(x.ends)) {
			t.Errorf("Match of %q: %v, want %s", x.text, got, x.ends)
		}
	}
}

// P8.1: what the first strong makes, written out; and the base -1 with it.
func TestStrong(t *testing.T) {
	for _, x := range []struct {
		want int
		of   string // texts, a blank between
	}{
		{0, "L LR LA ?L 1L 2LR )L .L eL EL OLR"},
		{1, "R A RL AL ?R 1A 2R ,AL 'R 0R sR _A )R ).R eR oA ER"},
		// None.
		{0, "1 + # 2 , ' 0 s _ ? e o E O . ) ?1+#2,'0s_eoEO.) 2222"},
		// Within an isolate, and behind it.
		{0, "(R) [R) {A) (R)L [R)LR {R)L ([R)R) ([R)A)L (R)(R)"},
		{1, "(L)R [L)A {L)R (R)A (L)(L)R ([L)L)A ({L)R)R ()R"},
		// Behind an isolate without an end, and one whose end another one takes.
		{0, "(R [R {A ([R)R {(A)A [()R (([R))R"},
		{1, "R( A[ R(L (L)R[ )R( ))A"},
		// Behind ends of none.
		{1, "()))R )()A (L))R"},
		{0, "()))LR ))(R"},
		// Behind a B.
		{0, "$R ?$A $ ($R ()$R ($)R (R$A 1$R [$)A"},
		{1, "R$L A$ (L)R$L"},
		{0, "L$R"},
	} {
		for _, s := range strings.Fields(x.of) {
			if got := explicit.Strong(classes(s)); got != x.want {
				t.Errorf("Strong of %q: %d", s, got)
			}
			behind := s + "$?"
			levels, _, _ := explicit.Levels(classes(behind), -1)
			if len(levels) != len(behind) || levels[len(s)] != x.want || levels[len(s)+1] != x.want {
				t.Errorf("levels of %q, base -1: %v", behind, levels)
			}
		}
	}
}

// row is a text, its levels with the base 0, and with 1, and its classes, if they are others than the text's.
type row struct{ text, even, odd, as string }

// holdRows holds texts written out.
func holdRows(t *testing.T, rows []row) {
	t.Helper()
	for _, x := range rows {
		as := x.as
		if as == "" {
			as = x.text
		}
		hold(t, x.text, classes(x.text), 0, digits(x.even), as)
		hold(t, x.text, classes(x.text), 1, digits(x.odd), as)
	}
}

// P8.1: embeddings, written out.
func TestEmbeddings(t *testing.T) {
	holdRows(t, []row{
		{"L_R1_2?", "0000000", "1111111", ""},
		{"LELeR..L", "0-1-2--0", "1-3-4--1", ""},
		{"e1.1", "-2-0", "-2-1", ""},
		{"ee1..1", "--4--0", "--4--1", ""},
		{"EE1..1", "--3--0", "--5--1", ""},
		{"EeE1...1", "---3---0", "---5---1", ""},
		{"E1.e1.1", "-1--2-0", "-3--2-1", ""},
		{"E1", "-1", "-3", ""},
		// A PDF at the only entry, and one too many.
		{".1", "-0", "-1", ""},
		{"..E1.1", "---1-0", "---3-1", ""},
		{"E..1", "---0", "---1", ""},
		{"E...e1", "-----2", "-----2", ""},
		// B, after which all begins anew.
		{"EEL$L.L", "--300-0", "--511-1", ""},
		{"$E1$1", "0-100", "1-311", ""},
		{"E$e$1", "-0-00", "-1-11", ""},
		{"EE$.1", "--0-0", "--1-1", ""},
		{"EE$E1.1", "--0-1-0", "--1-3-1", ""},
	})
}

// P8.1: isolates, written out.
func TestIsolates(t *testing.T) {
	holdRows(t, []row{
		{"L(R)L", "00200", "11211", ""},
		{"R[L)R", "00100", "11311", ""},
		{"([(1)1)1)1", "0234332200", "1234332211", ""},
		{"(1)[1)1", "0200100", "1211311", ""},
		// Without an end, with one that another one takes, and with a B between.
		{"([1", "023", "123", ""},
		{"([)1", "0222", "1222", ""},
		{"([)1)1)1", "02220000", "12221111", ""},
		{"(1$)1", "02000", "12111", ""},
		{"([$)1", "02000", "12111", ""},
		// A PDI that ends none.
		{")1", "00", "11", ""},
		{"E)1.1", "-11-0", "-33-1", ""},
		{"(1))1)1", "0200000", "1211111", ""},
		{"(1)E)1", "020-11", "121-33", ""},
		// A PDI that closes what is open within its isolate, and nothing else.
		{"(EE1)1", "0--500", "1--511", ""},
		{"[e1)1", "0-200", "1-411", ""},
		{"E(e1)1.1", "-1-411-0", "-3-633-1", ""},
		{"([E1))1", "02-5200", "12-5211", ""},
		{"([E1)1.1)1", "02-522-200", "12-522-211", ""},
		// A PDF whose top is an isolate's.
		{"E(.1)1.1", "-1-211-0", "-3-433-1", ""},
		{"[.1)1", "0-100", "1-311", ""},
		{"(E..1)1", "0---200", "1---211", ""},
		{"E[..)1", "-1--11", "-3--33", ""},
	})
}

// P8.1: FSI, written out.
func TestFirstStrong(t *testing.T) {
	holdRows(t, []row{
		// Whose first strong makes 1, makes 0, and that has none; with an end.
		{"{R)1", "0100", "1311", ""},
		{"{A)1", "0100", "1311", ""},
		{"{1A)1", "01100", "13311", ""},
		{"{RL)1", "01100", "13311", ""},
		{"{L)1", "0200", "1211", ""},
		{"{LR)1", "02200", "12211", ""},
		{"{1)1", "0200", "1211", ""},
		{"{)1", "000", "111", ""},
		{"{2)R", "0200", "1211", ""},
		// Without an end.
		{"{R", "01", "13", ""},
		{"{1R", "011", "133", ""},
		{"{L", "02", "12", ""},
		{"{1", "02", "12", ""},
		{"{(R)", "0242", "1242", ""},
		{"{(R)A", "01211", "13433", ""},
		// With a B ahead of its end.
		{"{1$R)", "02000", "12111", ""},
		{"{A$L)", "01000", "13111", ""},
		{"{1R$", "0110", "1331", ""},
		{"{(R$A", "02400", "12411", ""},
		// With isolates within it.
		{"{(R)1)1", "0242200", "1242211", ""},
		{"{(L)A)1", "0121100", "1343311", ""},
		{"{[L)1)R", "0232200", "1232211", ""},
		{"{(R", "024", "124", ""},
		{"{{R)L)", "023220", "123221", ""},
		{"{{L)R)", "012110", "134331", ""},
		{"{{{R)))", "0245420", "1245421", ""},
		// With embeddings within it, and overrides about it.
		{"{EL.)1", "0-3-00", "1-3-11", ""},
		{"{eR.)1", "0-2-00", "1-4-11", ""},
		{"{oR.)1", "0-2-00", "1-4-11", "{oL.)1"},
		{"O{L)L", "-1211", "-3433", "ORLRR"},
		{"o{R)R", "-2322", "-2322", "oLRLL"},
	})
}

// P8.1: overrides, written out; and what is removed keeps its class.
func TestOverrides(t *testing.T) {
	holdRows(t, []row{
		{"oR1?.R", "-222-0", "-222-1", "oLLL.R"},
		{"OL1?.L", "-111-0", "-333-1", "ORRR.L"},
		// Over what begins an isolate, over its end, and not within it.
		{"OL(L)L.L", "-11211-0", "-33433-1", "ORRLRR.L"},
		{"oR[R)R.R", "-22322-0", "-22322-1", "oLLRLL.R"},
		{"O)1", "-11", "-33", "ORR"},
		{"o(", "-2", "-2", "oL"},
		{"(O1)1", "0-300", "1-311", "(OR)1"},
		{"O(o1)1", "-1-411", "-3-633", "ORoLRR"},
		// One within another one, and an embedding within one.
		{"OeL.L", "--2-1", "--4-3", "OeL.R"},
		{"OoR.L", "--2-1", "--4-3", "OoL.R"},
		{"oER.R", "--3-2", "--3-2", "oER.L"},
		// Not over B, nor behind it.
		{"OL$L", "-100", "-311", "OR$L"},
		{"o$", "-0", "-1", ""},
		// What is removed.
		{"0", "-", "-", ""},
		{"O0L", "--1", "--3", "O0R"},
		{"o0R", "--2", "--2", "o0L"},
		{"O0E.o.eL", "-------2", "-------4", ""},
		{"LeoEO0.R", "0------5", "1------5", ""},
	})
}

// P8.1, P8.2: as deep as may be, and deeper: the levels of what stands behind a head, removed ones as -1.
func TestDeep(t *testing.T) {
	const gone = -1
	for _, x := range []struct {
		base       int
		of         string
		n          int
		tail, as   string
		wantLevels []int
	}{
		// Embeddings up to the greatest level, odd and even, and beyond it.
		{0, "E", 62, "1E1", "", []int{123, gone, 125}},
		{0, "E", 63, "1E1E1", "", []int{125, gone, 125, gone, 125}},
		{0, "E", 63, "1E1.1..1", "", []int{125, gone, 125, gone, 125, gone, gone, 121}},
		{0, "e", 62, "1e1E1..1.1", "", []int{124, gone, 124, gone, 124, gone, gone, 124, gone, 122}},
		{0, "e", 62, "E1e1..1", "", []int{gone, 125, gone, 125, gone, gone, 124}},
		{0, "Ee", 62, "1E1e1", "", []int{124, gone, 125, gone, 125}},
		{0, "E", 70, ".......1.1", "", []int{gone, gone, gone, gone, gone, gone, gone, 125, gone, 123}},
		{1, "E", 62, "1E1.1.1", "", []int{125, gone, 125, gone, 125, gone, 123}},
		{1, "e", 62, "1E1.e1", "", []int{124, gone, 125, gone, gone, 124}},
		{1, "eE", 62, "1e1E1", "", []int{125, gone, 125, gone, 125}},
		// Isolates likewise.
		{0, "[", 62, "1[1[1", "", []int{123, 123, 125, 125, 125}},
		{0, "[", 63, "1[1)1)1", "", []int{125, 125, 125, 125, 125, 123, 123}},
		{0, "(", 62, "1(1)1)1", "", []int{124, 124, 124, 124, 124, 122, 122}},
		{0, "(", 62, "[1(1)1)1)1", "", []int{124, 125, 125, 125, 125, 125, 124, 124, 122, 122}},
		{1, "[", 62, "1[1)1)1", "", []int{125, 125, 125, 125, 125, 123, 123}},
		{1, "(", 62, "(1)[1)1", "", []int{124, 124, 124, 124, 125, 124, 124}},
		{0, "(", 62, "{L1)1)1", "", []int{124, 124, 124, 124, 124, 122, 122}},
		{0, "(", 62, "{R1)1)1", "", []int{124, 125, 125, 124, 124, 122, 122}},
		{0, "(", 62, "{)1)1", "", []int{124, 124, 124, 122, 122}},
		// What would not be too deep by itself, within an isolate, or an embedding, that is.
		{0, "(", 62, "([1)1)1)1", "", []int{124, 124, 124, 124, 124, 124, 124, 122, 122}},
		{0, "(", 62, "(E1.1)E1", "", []int{124, gone, 124, gone, 124, 124, gone, 125}},
		{0, "e", 62, "e[1)1.[1)1", "", []int{gone, 124, 124, 124, 124, gone, 124, 125, 124, 124}},
		{0, "e", 62, "eE1.1.E1", "", []int{gone, gone, 124, gone, 124, gone, gone, 125}},
		{1, "e", 62, "e[1)1.[1", "", []int{gone, 124, 124, 124, 124, gone, 124, 125}},
		// PDFs and PDIs within, and behind, isolates that are too deep.
		{0, "[", 63, "[E1.1)1)1", "", []int{125, gone, 125, gone, 125, 125, 125, 123, 123}},
		{0, "E", 63, "[.1)1.1", "", []int{125, gone, 125, 125, 125, gone, 123}},
		{0, "E", 63, "[[.)1).1", "", []int{125, 125, gone, 125, 125, 125, gone, 123}},
		{0, "E", 64, "[1)1.1.1", "", []int{125, 125, 125, 125, gone, 125, gone, 123}},
		{0, "E", 64, "[.)1.1.1", "", []int{125, gone, 125, 125, gone, 125, gone, 123}},
		{0, "E", 64, "[E)1.1.1", "", []int{125, gone, 125, 125, gone, 125, gone, 123}},
		{0, "[", 63, "[[1))1)1", "", []int{125, 125, 125, 125, 125, 125, 123, 123}},
		{0, "[", 66, ")))1)1", "", []int{125, 125, 125, 125, 123, 123}},
		// PDIs that end none, when embeddings are too deep.
		{0, "E", 64, ")1.1.1", "", []int{125, 125, gone, 125, gone, 123}},
		// B, after which all begins anew, with nothing too deep.
		{0, "E", 70, "[1$1E1.1", "", []int{125, 125, 0, 0, gone, 1, gone, 0}},
		{1, "[", 70, "1$)1[1", "", []int{125, 1, 1, 1, 1, 3}},
		// Overrides as deep as may be, and ones that are too deep.
		{0, "O", 63, "1o1.1", "RoR.R", []int{125, gone, 125, gone, 125}},
		{0, "o", 62, "O1..1", "OR..L", []int{gone, 125, gone, gone, 122}},
		{0, "E", 63, "O1.1", "O1.1", []int{gone, 125, gone, 125}},
		{0, "O", 63, "[L)L", "RRRR", []int{125, 125, 125, 125}},
		{0, "O", 62, "[L)L", "RLRR", []int{123, 125, 123, 123}},
	} {
		l := classes(strings.Repeat(x.of, x.n) + x.tail)
		at := len(l) - len(x.tail)
		as := x.as
		if as == "" {
			as = x.tail
		}
		levels, got, e := explicit.Levels(l, x.base)
		if e != api.OK || len(levels) != len(l) || len(got) != len(l) {
			t.Fatalf("%d of %q, and %q: %d, %d, %v", x.n, x.of, x.tail, len(levels), len(got), e)
		}
		if !slices.Equal(levels[at:], x.wantLevels) || !slices.Equal(got[at:], classes(as)) {
			t.Errorf("%d of %q, and %q, base %d: %v, %v, want %v, %q", x.n, x.of, x.tail, x.base, levels[at:], got[at:], x.wantLevels, as)
		}
	}
}

// P8.1: an isolate's end takes away the embeddings that were too deep within it.
func TestDeepWithin(t *testing.T) {
	for _, x := range []struct {
		tail string
		want []int
	}{
		{"E1)1E1", []int{-1, 125, 0, 0, -1, 1}},
		{"EEE1.)E1.1", []int{-1, -1, -1, 125, -1, 0, -1, 1, -1, 0}},
		{"E[.1)1)(1", []int{-1, 125, -1, 125, 125, 125, 0, 0, 2}},
		{"E[[)1)1)1", []int{-1, 125, 125, 125, 125, 125, 125, 0, 0}},
	} {
		head := "(" + strings.Repeat("E", 62)
		levels, _, _ := explicit.Levels(classes(head+x.tail), 0)
		if len(levels) != len(head)+len(x.tail) || !slices.Equal(levels[len(head):], x.want) {
			t.Errorf("%q: %v, want %v", x.tail, levels, x.want)
		}
	}
}

// P8.1, P8.2: each level there may be, one by one, up to the greatest one, and no further.
func TestEachLevel(t *testing.T) {
	for _, x := range []struct {
		base              int
		of                string // one behind the other
		first, step, last int
	}{
		{0, "Ee", 1, 1, 125},
		{0, "Oo", 1, 1, 125},
		{0, "[(", 1, 1, 125},
		{0, "[e", 1, 1, 125},
		{1, "eE", 2, 1, 125},
		{1, "oO", 2, 1, 125},
		{1, "([", 2, 1, 125},
		{1, "(O", 2, 1, 125},
		{0, "E", 1, 2, 125},
		{0, "[", 1, 2, 125},
		{0, "e", 2, 2, 124},
		{0, "(", 2, 2, 124},
		{0, "{", 2, 2, 124},
		{1, "E", 3, 2, 125},
		{1, "[", 3, 2, 125},
		{1, "e", 2, 2, 124},
		{1, "{", 2, 2, 124},
	} {
		s := ""
		var want []int
		level := x.base
		for k := range 200 {
			c := x.of[k%len(x.of)]
			s += string(c) + "1"
			before := level
			if strings.IndexByte("([{", c) < 0 {
				before = -1
			}
			level = min(x.first+x.step*k, x.last)
			want = append(want, before, level)
		}
		levels, _, e := explicit.Levels(classes(s), x.base)
		if e != api.OK || !slices.Equal(levels, want) {
			t.Errorf("200 of %q, base %d: %v, %v", x.of, x.base, levels, e)
		}
	}
}

// P8.1: all lists up to three classes, and longer ones of classes that have to do with one another, as read of the texts.
func TestAllShort(t *testing.T) {
	for _, x := range []struct {
		of   string
		most int
	}{
		{letters, 3},
		{"LR([{)$", 5},
		{"EoL.[)O", 5},
		{"E(.){R", 6},
		{"{)(R", 7},
		{"E.1", 8},
	} {
		each(x.of, x.most, func(s string) { holdRead(t, s, classes(s)) })
	}
}

// P8.1: all lists of up to three classes behind what is as deep as may be, or nearly so.
func TestAllDeep(t *testing.T) {
	for _, head := range []string{
		strings.Repeat("E", 62), strings.Repeat("E", 63), strings.Repeat("e", 62), strings.Repeat("e", 63),
		strings.Repeat("[", 63), strings.Repeat("(", 62), strings.Repeat("(", 63), strings.Repeat("[E", 31) + "e", strings.Repeat("E[", 31) + "(O",
	} {
		each("EeO.[({)R", 3, func(s string) {
			s = head + s
			l := classes(s)
			for k, base := range bases {
				levels, as, e := explicit.Levels(l, base)
				if e != api.OK || len(levels) != len(l) || len(as) != len(l) {
					t.Fatalf("%q, base %d: %d, %d, %v", s, base, len(levels), len(as), e)
				}
				for i := len(head); i < len(s); i++ {
					of, is := read(s, i)
					if levels[i] != of[k] || letters[as[i]] != is[k] {
						t.Fatalf("%q, base %d, at %d: %d, %d, want %d, %q", s, base, i, levels[i], as[i], of[k], is[k])
					}
				}
			}
		})
	}
}

// P8.1: numbers that are no class count as ON, wherever they stand: they make nothing, begin and end nothing, and their class is ON, or an override's.
func TestNoClass(t *testing.T) {
	for _, n := range noClasses {
		for _, base := range []int{0, 1} {
			hold(t, "no class", []api.Class{api.Class(n)}, base, []int{base}, "?")
			hold(t, "RLO, no class", []api.Class{api.RLO, api.Class(n)}, base, []int{-1, 1 + 2*base}, "OR")
			hold(t, "LRI, no class, PDI, no class", []api.Class{api.LRI, api.Class(n), api.PDI, api.Class(n)}, base, []int{base, 2, base, base}, "(?)?")
		}
		each("?R{)O.$", 4, func(s string) {
			l := classes(s)
			for i, c := range l {
				if c == api.ON {
					l[i] = api.Class(n)
				}
			}
			if strings.Contains(s, "?") {
				holdRead(t, s, l)
			}
		})
	}
}

// P8.1: the base -1 is that of what stands up to the first B, and holds behind it, too.
func TestBase(t *testing.T) {
	for _, x := range []struct{ text, levels string }{
		{"$R", "00"},
		{"?$R", "000"},
		{"R$L", "111"},
		{"L$R", "000"},
		{"A$$1", "1111"},
		{"(R$R", "0200"},
		{"(R)$A", "02000"},
		{"[L)A$1", "131111"},
		{"ER$L", "-311"},
		{"eL$R", "-200"},
		{"1_2", "000"},
		{"1_R", "111"},
		{"{R)L", "0100"},
		{"{L)R", "1211"},
		{"$E1$1", "0-100"},
		{"0R", "-1"},
		{"0$R", "-00"},
	} {
		hold(t, x.text, classes(x.text), -1, digits(x.levels), x.text)
	}
}

// P8.1, P1: numbers that are no base, whatever the classes.
func TestNoBase(t *testing.T) {
	for _, s := range []string{"", "L", "R", "$", "E1.", "([{)))", letters} {
		for _, base := range noBases {
			for _, l := range [][]api.Class{classes(s), nil} {
				levels, as, e := explicit.Levels(l, base)
				if e != api.ErrLevel || len(levels) != 0 || len(as) != 0 {
					t.Errorf("%q, base %d: %v, %v, %v", s, base, levels, as, e)
				}
			}
		}
	}
}

// holdDepth holds that levels are from the base's up to 125, and -1 where, and only where, a scalar is removed.
func holdDepth(t *testing.T, s string) {
	t.Helper()
	l := classes(s)
	for _, base := range bases {
		least := base
		if base < 0 {
			least = explicit.Strong(l)
		}
		levels, as, e := explicit.Levels(l, base)
		if e != api.OK || len(levels) != len(s) || len(as) != len(s) {
			t.Fatalf("%q, base %d: %v, %v, %v", s, base, levels, as, e)
		}
		for i, level := range levels {
			if strings.IndexByte(removed, s[i]) >= 0 {
				if level != -1 || as[i] != l[i] {
					t.Fatalf("%q, base %d, at %d: removed, but %d, %d", s, base, i, level, as[i])
				}
			} else if level < least || level > 125 {
				t.Fatalf("%q, base %d, at %d: %d", s, base, i, level)
			}
		}
	}
}

// P8.2: levels are from the base's up to 125, but of those that are removed.
func TestNeverTooDeep(t *testing.T) {
	each(letters, 3, func(s string) { holdDepth(t, s) })
	each("EeOo[({1.)", 3, func(s string) {
		holdDepth(t, strings.Repeat(s, 140))
		for _, n := range []int{61, 62, 63, 64, 125, 126} {
			for _, head := range []string{"E", "e", "[", "(", "Ee"} {
				holdDepth(t, strings.Repeat(head, n)+s+"1")
			}
		}
	})
}

// P8.3: whatever stands in an isolate, what stands behind its end, and this, are told as if nothing stood in it.
func TestClosed(t *testing.T) {
	var within []string
	keep := func(s string) {
		if s != "" && strings.IndexAny(blanked(isolated, s), "([{)$") < 0 { // the isolate has no other end
			within = append(within, s)
		}
	}
	each(letters, 2, keep)
	each("EO.R(1)", 3, keep)
	within = append(within, "L(R)E.", strings.Repeat("E", 200), strings.Repeat("o", 63)+"1", strings.Repeat(".", 200), strings.Repeat("[", 130)+"R"+strings.Repeat(")", 130), strings.Repeat("E[", 130)+strings.Repeat(").", 130))
	for _, head := range []string{
		"", "L", "R$", "E", "O", "eoO", "(", "[o", "{", "E(O", ")", "..", "{(",
		strings.Repeat("E", 62), strings.Repeat("E", 63), strings.Repeat("e", 62), strings.Repeat("e", 64), strings.Repeat("(", 62), strings.Repeat("[", 65), strings.Repeat("[", 61) + "EEO",
	} {
		for _, tail := range []string{"1", ".1", ")1", ".).1", "E1", "[L)1.1", "{R)(R", "A$1", "L.....1)))1"} {
			for _, begin := range []string{"(", "[", "{"} {
				holdClosed(t, head+begin, within, ")"+tail)
			}
		}
	}
}

// holdClosed holds that a tail is told in the same way behind a head, and whatever comes between.
func holdClosed(t *testing.T, head string, within []string, tail string) {
	t.Helper()
	for _, base := range bases {
		bare, bareAs, _ := explicit.Levels(classes(head+tail), base)
		if len(bare) != len(head+tail) {
			t.Fatalf("%q: %v", head+tail, bare)
		}
		for _, s := range within {
			l := classes(head + s + tail)
			at := len(head) + len(s)
			if ends := explicit.Match(l); ends[len(head)-1] != at {
				t.Fatalf("%q: the isolate ends at %d", head+s+tail, ends[len(head)-1])
			}
			levels, as, e := explicit.Levels(l, base)
			if e != api.OK || !slices.Equal(levels[at:], bare[len(head):]) || !slices.Equal(as[at:], bareAs[len(head):]) {
				t.Fatalf("%q in %q and %q, base %d: %v, %v, want %v", s, head, tail, base, levels[at:], as[at:], bare[len(head):])
			}
		}
	}
}

// P8.1, P1: long lists, gone through at once, however they are nested.
func TestLong(t *testing.T) {
	const n = 200000
	for _, x := range []struct {
		first, last string // n of each
		levels      [4]int // of the first one, the last first one, the first last one, and the last one; base 0
	}{
		{"{", "R", [4]int{0, 124, 124, 124}}, // in the innermost alone
		{"{", "L", [4]int{0, 124, 124, 124}},
		{"{", ")", [4]int{0, 124, 124, 0}},
		{"[", ")", [4]int{0, 125, 125, 0}},
		{"(", "1", [4]int{0, 124, 124, 124}},
		{"E", ".", [4]int{-1, -1, -1, -1}},
		{"E", "1", [4]int{-1, -1, 125, 125}},
		{"E", ")", [4]int{-1, -1, 125, 125}},
		{"E", "$", [4]int{-1, -1, 0, 0}},
		{".", "L", [4]int{-1, -1, 0, 0}},
		{")", "{", [4]int{0, 0, 0, 124}},
		{"1", "L", [4]int{0, 0, 0, 0}},
	} {
		s := strings.Repeat(x.first, n) + strings.Repeat(x.last, n)
		l := classes(s)
		levels, as, e := explicit.Levels(l, 0)
		if e != api.OK || len(levels) != 2*n || len(as) != 2*n {
			t.Fatalf("%q and %q: %d, %d, %v", x.first, x.last, len(levels), len(as), e)
		}
		if got := [4]int{levels[0], levels[n-1], levels[n], levels[2*n-1]}; got != x.levels {
			t.Errorf("%q and %q: %v, want %v", x.first, x.last, got, x.levels)
		}
		ends := explicit.Match(l)
		for i, end := range ends {
			want := -1
			if i < n && strings.Contains("([{", x.first) && x.last == ")" {
				want = 2*n - 1 - i
			}
			if end != want {
				t.Fatalf("Match of %q and %q, at %d: %d, want %d", x.first, x.last, i, end, want)
			}
		}
		explicit.Strong(l)
	}
}

// P8.1, P1: FSIs, one within the other, whose first strongs are far behind them, and make 0 and 1 by turns.
func TestLongFirstStrong(t *testing.T) {
	const n = 200000
	s := strings.Repeat("{", n) + strings.Repeat("R)L)", n/2)
	for base := range 2 {
		want := make([]int, n)
		for i := range want {
			want[i] = min(i+1, 125) // the outermost one's makes 0
		}
		want[0] = base
		levels, _, e := explicit.Levels(classes(s), base)
		if e != api.OK || len(levels) != len(s) || !slices.Equal(levels[:n], want) {
			t.Errorf("base %d: %v", base, e)
		}
	}
}

// P2: what is handed in is not written into, what lies behind its length tells nothing, and what is answered shares no memory with it, or with another answer.
func TestGivenStays(t *testing.T) {
	const s = "L(R{A)oL)1.[E$O)R1_o{R.(1)E0?"
	all := classes(s)
	holdRead(t, s, all)
	kept := slices.Clone(all)
	for n := range len(all) + 1 {
		l := all[:n]
		for _, base := range bases {
			levels, as, _ := explicit.Levels(l, base)
			again, asAgain, _ := explicit.Levels(l, base)
			ends := explicit.Match(l)
			for _, x := range [][]int{levels[:cap(levels)], ends[:cap(ends)]} {
				for i := range x {
					x[i] = -7
				}
			}
			for i := range as[:cap(as)] {
				as[:cap(as)][i] = api.AL
			}
			if !slices.Equal(all, kept) {
				t.Fatalf("%q: the list is written into", s[:n])
			}
			hold(t, s[:n], l, base, again, text(asAgain))
		}
		holdRead(t, s[:n], l)
		for _, behind := range []string{")", "R", "))$", "...."} {
			holdRead(t, s[:n], append(slices.Clone(l), classes(behind)...)[:n])
		}
		if !slices.Equal(all, kept) {
			t.Fatalf("%q: the list is written into", s[:n])
		}
	}
}

// text is classes as letters.
func text(l []api.Class) string {
	b := make([]byte, len(l))
	for i, c := range l {
		b[i] = letters[c]
	}
	return string(b)
}

// P2: a list that is changed between two calls is read afresh.
func TestChanged(t *testing.T) {
	l := classes("{R)L")
	hold(t, "{R)L", l, -1, []int{0, 1, 0, 0}, "{R)L")
	l[1] = api.L
	hold(t, "{L)L", l, -1, []int{0, 2, 0, 0}, "{L)L")
	l[3] = api.AL
	hold(t, "{L)A", l, -1, []int{1, 2, 1, 1}, "{L)A")
	l[0] = api.RLO
	hold(t, "OL)A", l, -1, []int{-1, 1, 1, 1}, "ORRR")
}
