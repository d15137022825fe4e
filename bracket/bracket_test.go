package bracket_test

import (
	"math"
	"slices"
	"strings"
	"testing"

	"frisket/api"
	"frisket/bracket"
)

// letters has one for each class, in the order of their numbers: e, o, E and O for LRE, LRO, RLE and RLO, a point for PDF; brackets are marks here, so that LRI, RLI, FSI and PDI are i, j, f and p.
const letters = "LRA1+#2,'0$s_?eoEO.ijfp"

// marked has the marks of places whose class is ON: those that open and close brackets 1 to 4.
const marked = "()[]{}<>"

// The letters of places that came as NSM, and what they are behind layer 10: ON, L, R and EN, and ON with a mark that opens or closes brackets 1, or opens or closes brackets 2.
const cameMarks, areMarks = "'lrnbdgq", "?LR1()[]"

// other is the letter of a number that is no class.
const other = '~'

// most is how many that open may wait.
const most = 63

// noClasses is numbers that are no class.
var noClasses = []int{math.MinInt, math.MinInt32, -1 << 20, -256, -243, -23, -13, -8, -3, -2, -1, 23, 24, 99, 255, 256, 256 + 1, 256 + 8, 256 + 13, 1 << 16, 1 << 32, 1<<32 + 13, math.MaxInt32, math.MaxInt - 1, math.MaxInt}

// noKinds is kinds of marks that are none.
var noKinds = []int{math.MinInt, math.MinInt + 1, math.MinInt + 2, -1 << 32, -255, -254, -2, -1, 0, 3, 4, 5, 6, 255, 256, 257, 258, 1 << 16, 1 << 32, 1<<32 + 1, 1<<32 + 2, math.MaxInt - 1, math.MaxInt}

// ids is numbers of brackets.
var ids = []int{math.MinInt, math.MinInt + 1, -1 << 32, -2, -1, 0, 1, 2, 63, 64, 255, 256, 257, 1 << 16, 1 << 32, 1<<32 + 1, math.MaxInt - 1, math.MaxInt}

// sides is those that the first may be.
var sides = []api.Class{api.L, api.R}

// given is what calls take.
type given struct {
	came, l []api.Class
	marks   []bracket.Mark
}

// of is what a text tells.
func of(s string) given {
	var g given
	for i := range s {
		came, c := s[i], s[i]
		if k := strings.IndexByte(cameMarks, c); k >= 0 {
			came, c = '\'', areMarks[k]
		}
		var m bracket.Mark
		if k := strings.IndexByte(marked, c); k >= 0 {
			m = bracket.Mark{Kind: k%2 + 1, ID: k/2 + 1}
		}
		g.came, g.l, g.marks = append(g.came, class(came)), append(g.l, class(c)), append(g.marks, m)
	}
	return g
}

// class is that of a letter.
func class(c byte) api.Class {
	switch {
	case c == other:
		return 99
	case strings.IndexByte(marked, c) >= 0:
		return api.ON
	}
	return api.Class(strings.IndexByte(letters, c))
}

// classes is those of letters.
func classes(s string) []api.Class {
	return of(s).l
}

// kept is a copy of it.
func (g given) kept() given {
	return given{slices.Clone(g.came), slices.Clone(g.l), slices.Clone(g.marks)}
}

// is tells whether it is the same as another one.
func (g given) is(h given) bool {
	return slices.Equal(g.came, h.came) && slices.Equal(g.l, h.l) && slices.Equal(g.marks, h.marks)
}

// each hands out all texts of some letters, up to a length.
func each(of string, most int, do func(string)) {
	var grow func(b []byte)
	grow = func(b []byte) {
		do(string(b))
		if len(b) == most {
			return
		}
		for i := range of {
			grow(append(b, of[i]))
		}
	}
	grow(make([]byte, 0, most))
}

// readPairs is the pairs, found by looking back from each place that closes: one that opens is gone, if it is a pair's, or within one that is made ahead.
func readPairs(l []api.Class, marks []bracket.Mark) [][2]int {
	var made [][2]int
	var open []int // all that ever opened
	for i, m := range marks {
		if i >= len(l) || l[i] != api.ON {
			continue
		}
		var wait []int
		for _, at := range open {
			if !slices.ContainsFunc(made, func(p [2]int) bool { return p[0] <= at && at < p[1] }) {
				wait = append(wait, at)
			}
		}
		switch m.Kind {
		case 1:
			if len(wait) >= most {
				return rising(made)
			}
			open = append(open, i)
		case 2:
			same := slices.DeleteFunc(wait, func(at int) bool { return marks[at].ID != m.ID })
			if len(same) > 0 {
				made = append(made, [2]int{same[len(same)-1], i})
			}
		}
	}
	return rising(made)
}

// rising is pairs by their first places.
func rising(pairs [][2]int) [][2]int {
	var l [][2]int
	for _, p := range pairs {
		k := 0
		for k < len(l) && l[k][0] < p[0] {
			k++
		}
		l = slices.Insert(l, k, p)
	}
	return l
}

// readSides is a list's sides as a text, with a blank for each place that has none.
func readSides(l []api.Class) string {
	b := []byte(strings.Repeat(" ", len(l)))
	for i, c := range l {
		switch c {
		case api.L:
			b[i] = 'L'
		case api.R, api.EN, api.AN:
			b[i] = 'R'
		}
	}
	return string(b)
}

// readResolved is what becomes of a list, by texts of sides.
func readResolved(g given, pairs [][2]int, level int, first api.Class) []api.Class {
	l := slices.Clone(g.l)
	side, against := "L", "R"
	if level&1 != 0 {
		side, against = "R", "L"
	}
	for _, p := range pairs {
		s := readSides(l)
		between, ahead := s[p[0]+1:p[1]], strings.TrimSpace(readSides([]api.Class{first})+s[:p[0]])
		to := side
		switch {
		case strings.Contains(between, side):
		case !strings.Contains(between, against):
			continue
		case strings.HasSuffix(ahead, against):
			to = against
		}
		for _, at := range p {
			l[at] = class(to[0])
			for k := at + 1; k < len(l) && g.came[k] == api.NSM; k++ {
				l[k] = class(to[0])
			}
		}
	}
	return l
}

// holdPairs holds the pairs of a list.
func holdPairs(t *testing.T, g given, want [][2]int) {
	t.Helper()
	if got := bracket.Pairs(g.l, g.marks); !slices.Equal(got, want) {
		t.Fatalf("pairs of %v, %v: %v, want %v", g.l, g.marks, got, want)
	}
}

// holdList holds what becomes of a list.
func holdList(t *testing.T, g given, level int, first api.Class, want []api.Class) {
	t.Helper()
	got, e := bracket.Resolve(g.came, g.l, g.marks, level, first)
	if e != api.OK || !slices.Equal(got, want) {
		t.Fatalf("%v that came as %v, %v on level %d behind %d: %v, %v, want %v", g.l, g.came, g.marks, level, first, got, e, want)
	}
}

// hold holds what becomes of a text.
func hold(t *testing.T, s string, level int, first api.Class, want string) {
	t.Helper()
	holdList(t, of(s), level, first, classes(want))
}

// row is a text, and what becomes of it, on even levels behind L and behind R, and so on odd ones.
type row struct{ text, evenL, evenR, oddL, oddR string }

// holdRows holds what becomes of texts, written out.
func holdRows(t *testing.T, rows []row) {
	t.Helper()
	for _, x := range rows {
		hold(t, x.text, 0, api.L, x.evenL)
		hold(t, x.text, 0, api.R, x.evenR)
		hold(t, x.text, 1, api.L, x.oddL)
		hold(t, x.text, 1, api.R, x.oddR)
	}
}

// change is a text, and what becomes of it on even levels, and on odd ones.
type change struct{ text, even, odd string }

// holdChanges holds what becomes of texts, written out, whatever the first side is.
func holdChanges(t *testing.T, changes []change) {
	t.Helper()
	for _, x := range changes {
		holdRows(t, []row{{x.text, x.even, x.even, x.odd, x.odd}})
	}
}

// P11.1: the numbers of the classes are those of the letters, and what is wrong has its name.
func TestNumbers(t *testing.T) {
	want := []api.Class{api.L, api.R, api.AL, api.EN, api.ES, api.ET, api.AN, api.CS, api.NSM, api.BN, api.B, api.S, api.WS, api.ON, api.LRE, api.LRO, api.RLE, api.RLO, api.PDF, api.LRI, api.RLI, api.FSI, api.PDI}
	var l []api.Class
	for i := range letters {
		l = append(l, class(letters[i]))
	}
	if !slices.Equal(l, want) || api.ErrArg != 1 {
		t.Fatal(l, api.ErrArg)
	}
	if g := of("(>'d"); !g.is(given{[]api.Class{api.ON, api.ON, api.NSM, api.NSM}, []api.Class{api.ON, api.ON, api.ON, api.ON}, []bracket.Mark{{Kind: 1, ID: 1}, {Kind: 2, ID: 4}, {}, {Kind: 2, ID: 1}}}) {
		t.Fatal(g)
	}
}

// P11.1: no classes, and nil, whatever the marks are.
func TestNothing(t *testing.T) {
	for _, marks := range [][]bracket.Mark{nil, {}, of("()").marks, of(strings.Repeat("(", 70)).marks} {
		for _, l := range [][]api.Class{nil, {}, classes("()")[:0]} {
			holdPairs(t, given{l, l, marks}, nil)
			for _, first := range sides {
				holdList(t, given{nil, l, marks}, 0, first, nil)
				holdList(t, given{l, nil, marks}, 1, first, nil)
			}
		}
	}
}

// P11.1: no marks, nil, fewer than classes, and more; those behind the classes count for nothing.
func TestFewMarks(t *testing.T) {
	g := of("(L)[L]")
	for n, want := range [][][2]int{nil, nil, nil, {{0, 2}}, {{0, 2}}, {{0, 2}}, {{0, 2}, {3, 5}}} {
		short := given{g.came, g.l, g.marks[:n:n]}
		holdPairs(t, short, want)
		holdList(t, short, 0, api.R, classes([]string{"?L??L?", "LLL?L?", "LLLLLL"}[len(want)]))
	}
	holdPairs(t, given{g.came, g.l, nil}, nil)
	holdList(t, given{g.came, g.l, nil}, 0, api.R, g.l)
	for n := range len(g.l) + 1 {
		fewer := given{g.came[:n:n], g.l[:n:n], g.marks}
		want := readPairs(fewer.l, fewer.marks)
		holdPairs(t, fewer, want)
		holdList(t, fewer, 0, api.R, readResolved(fewer, want, 0, api.R))
		if (n >= 3) != (len(want) >= 1) || (n >= 6) != (len(want) >= 2) {
			t.Fatal(n, want)
		}
	}
}

// P11.1: pairs, written out.
func TestPairs(t *testing.T) {
	for _, x := range []struct {
		text string
		want [][2]int
	}{
		// One alone, and the wrong way round.
		{"(", nil}, {")", nil}, {"?(?", nil}, {"?)?", nil}, {"((", nil}, {"))", nil}, {")(", nil}, {")?(", nil}, {")()", [][2]int{{1, 2}}}, {"())", [][2]int{{0, 1}}}, {"(()", [][2]int{{1, 2}}},
		// Beside one another, at the beginning, at the end, and between.
		{"()", [][2]int{{0, 1}}}, {"()??", [][2]int{{0, 1}}}, {"??()", [][2]int{{2, 3}}}, {"?(?)?", [][2]int{{1, 3}}}, {"(LR12_)", [][2]int{{0, 6}}},
		// One behind the other, and within one another: by those that open.
		{"()()", [][2]int{{0, 1}, {2, 3}}}, {"()[](){}", [][2]int{{0, 1}, {2, 3}, {4, 5}, {6, 7}}},
		{"(())", [][2]int{{0, 3}, {1, 2}}}, {"([{<>}])", [][2]int{{0, 7}, {1, 6}, {2, 5}, {3, 4}}}, {"(()())", [][2]int{{0, 5}, {1, 2}, {3, 4}}},
		{"([])[()]", [][2]int{{0, 3}, {1, 2}, {4, 7}, {5, 6}}}, {"?(?[?]?{?}?)?", [][2]int{{1, 11}, {3, 5}, {7, 9}}},
		// Other brackets make none.
		{"(]", nil}, {"[)", nil}, {"(}>]", nil}, {"([)", [][2]int{{0, 2}}}, {"(])", [][2]int{{0, 2}}}, {"(]}>)", [][2]int{{0, 4}}},
		// Crossed: the one that is crossed is gone.
		{"([)]", [][2]int{{0, 2}}}, {"([{)]}", [][2]int{{0, 3}}}, {"([)]()", [][2]int{{0, 2}, {4, 5}}}, {"[([)]", [][2]int{{0, 4}, {1, 3}}}, {"[(])", [][2]int{{0, 2}}}, {"([{})]", [][2]int{{0, 4}, {2, 3}}}, {"{([)]}", [][2]int{{0, 5}, {1, 3}}}, {"[[(])]", [][2]int{{0, 5}, {1, 3}}},
		// The same several times: the last one counts.
		{"(()", [][2]int{{1, 2}}}, {"((()", [][2]int{{2, 3}}}, {"((()))", [][2]int{{0, 5}, {1, 4}, {2, 3}}}, {"([()", [][2]int{{2, 3}}}, {"([())]", [][2]int{{0, 4}, {2, 3}}}, {"(([)])", [][2]int{{0, 5}, {1, 3}}}, {"([(]))", [][2]int{{0, 4}, {1, 3}}},
		{"([)(])", [][2]int{{0, 2}, {3, 5}}},
		// Those that came as NSM, and are ON.
		{"bd", [][2]int{{0, 1}}}, {"(gq)", [][2]int{{0, 3}, {1, 2}}}, {"b)(d", [][2]int{{0, 1}, {2, 3}}},
	} {
		holdPairs(t, of(x.text), x.want)
	}
}

// P11.1: the very marks of the class ON count, of each other one none.
func TestCounts(t *testing.T) {
	all := append([]int{}, noClasses...)
	for c := range len(letters) {
		all = append(all, c)
	}
	for _, c := range all {
		for _, x := range []struct {
			at           int // whose class it is
			text         string
			counts, none [][2]int
		}{
			{0, "()", [][2]int{{0, 1}}, nil},
			{1, "()", [][2]int{{0, 1}}, nil},
			{1, "(()", [][2]int{{1, 2}}, [][2]int{{0, 2}}},
			{1, "())", [][2]int{{0, 1}}, [][2]int{{0, 2}}},
			{2, "[()]", [][2]int{{0, 3}, {1, 2}}, [][2]int{{0, 3}}},
			{1, "([)]", [][2]int{{0, 2}}, [][2]int{{0, 2}}},
			{2, "([)]", [][2]int{{0, 2}}, [][2]int{{1, 3}}},
			{most, strings.Repeat("(", most+1) + ")", nil, [][2]int{{most - 1, most + 1}}},
			{3, strings.Repeat("(", most+1) + ")", nil, [][2]int{{most, most + 1}}},
		} {
			g, want := of(x.text), x.none
			if g.l[x.at] = api.Class(c); c == int(api.ON) {
				want = x.counts
			}
			holdPairs(t, g, want)
			holdList(t, g, 1, api.L, readResolved(g, want, 1, api.L))
			// What it came as tells nothing of whether it counts.
			g.came[x.at], g.l[x.at] = api.Class(c), api.ON
			holdPairs(t, g, x.counts)
			holdList(t, g, 1, api.L, readResolved(g, x.counts, 1, api.L))
		}
	}
}

// P11.1: kinds that are none, with the numbers of brackets that others have.
func TestNoKind(t *testing.T) {
	for _, kind := range noKinds {
		for _, x := range []struct {
			at   int // whose kind it is
			text string
			want [][2]int
		}{
			{0, "()", nil}, {1, "()", nil}, {1, "(()", [][2]int{{0, 2}}}, {1, "())", [][2]int{{0, 2}}}, {1, "[])]", [][2]int{{0, 3}}}, {2, "([)]", [][2]int{{1, 3}}},
			{most, strings.Repeat("(", most+1) + ")", [][2]int{{most - 1, most + 1}}},
		} {
			g := of(x.text)
			g.marks[x.at].Kind = kind
			holdPairs(t, g, x.want)
			holdList(t, g, 0, api.R, g.l)
		}
		g := of("(L)")
		g.marks[2].Kind = kind
		holdList(t, g, 0, api.R, g.l)
	}
}

// P11.1: numbers of brackets below 0, 0, and very great ones: those that are the same make pairs.
func TestIDs(t *testing.T) {
	for _, one := range ids {
		for _, two := range ids {
			var want [][2]int
			to := "?L?"
			if one == two {
				want, to = [][2]int{{0, 2}}, "LLL"
			}
			g := of("(L)")
			g.marks[0].ID, g.marks[2].ID = one, two
			holdPairs(t, g, want)
			holdList(t, g, 0, api.R, classes(to))
			// A place without a mark has a number, too, that is none of a bracket.
			g.marks[1].ID = one
			g.l[1] = api.ON
			holdPairs(t, g, want)
		}
	}
	// All of them, within one another.
	var g given
	var want [][2]int
	for k, id := range ids {
		g.l, g.marks = append(g.l, api.ON), append(g.marks, bracket.Mark{Kind: 1, ID: id})
		want = append(want, [2]int{k, 2*len(ids) - 1 - k})
	}
	for _, id := range slices.Backward(ids) {
		g.l, g.marks = append(g.l, api.ON), append(g.marks, bracket.Mark{Kind: 2, ID: id})
	}
	holdPairs(t, g, want)
}

// many is some letters, many times over.
func many(n int, s string) string {
	return strings.Repeat(s, n)
}

// nested is pairs within one another, beside one another in the middle, from a place on.
func nested(from, n int) [][2]int {
	var l [][2]int
	for k := range n {
		l = append(l, [2]int{from + k, from + 2*n - 1 - k})
	}
	return l
}

// P11.1: sixty-three may wait; one more, and no more pairs are looked for.
func TestStack(t *testing.T) {
	for _, x := range []struct {
		text string
		want [][2]int
	}{
		// Sixty-two, sixty-three and sixty-four, and what closes behind them.
		{many(62, "(") + many(62, ")"), nested(0, 62)},
		{many(63, "(") + many(63, ")"), nested(0, 63)},
		{many(64, "(") + many(64, ")"), nil},
		{many(65, "(") + many(65, ")"), nil},
		{many(62, "(") + ")", [][2]int{{61, 62}}},
		{many(63, "(") + ")", [][2]int{{62, 63}}},
		{many(64, "(") + ")", nil},
		{many(62, "{") + "()", [][2]int{{62, 63}}},
		{many(63, "{") + "()", nil},
		{many(62, "{") + "()()", [][2]int{{62, 63}, {64, 65}}},
		{many(62, "{") + "([)", nil},
		{many(62, "{") + "([])", nil},
		{many(61, "{") + "([])", nested(61, 2)},
		// Pairs that were made ahead stay; none is made behind.
		{"()" + many(64, "(") + many(64, ")"), [][2]int{{0, 1}}},
		{"()" + many(63, "(") + many(63, ")"), append([][2]int{{0, 1}}, nested(2, 63)...)},
		{"([])" + many(64, "{") + "}()[]", nested(0, 2)},
		{many(63, "(") + "))" + "[[[" + "]", append([][2]int{{61, 64}}, [2]int{62, 63})},
		{many(63, "(") + "))" + "[[" + "]", append([][2]int{{61, 64}, {62, 63}}, [2]int{66, 67})},
		{many(63, "{") + "}[" + "]" + "[()]", [][2]int{{62, 63}, {64, 65}}},
		{many(62, "{") + "[]" + "[()]", [][2]int{{62, 63}}},
		// What is gone makes room: pairs, and those that are crossed.
		{many(200, "()"), besides(200)},
		{many(40, "(") + many(40, ")") + many(40, "(") + many(40, ")"), append(nested(0, 40), nested(80, 40)...)},
		{"[" + many(62, "(") + "]" + many(63, "(") + many(63, ")"), append([][2]int{{0, 63}}, nested(64, 63)...)},
		{"[" + many(62, "(") + "]" + many(64, "(") + many(64, ")"), [][2]int{{0, 63}}},
		{"[" + many(63, "(") + "]" + many(3, "()"), nil},
		// What closes nothing does no harm, nor does what does not count.
		{many(63, "{") + "])>" + "}", [][2]int{{62, 66}}},
		{many(70, ")") + many(63, "(") + many(63, ")"), nested(70, 63)},
		{many(63, "(") + many(70, "?L_") + ")", [][2]int{{62, 63 + 210}}},
	} {
		g := of(x.text)
		holdPairs(t, g, x.want)
		if read := readPairs(g.l, g.marks); !slices.Equal(read, x.want) {
			t.Fatalf("%q is read as %v, not as %v", x.text, read, x.want)
		}
	}
	// What was made ahead of one too many is resolved, what is behind it stays.
	hold(t, "(R)"+many(64, "[")+"R"+many(64, "]")+"(R)", 1, api.L, "RRR"+many(64, "?")+"R"+many(64, "?")+"?R?")
	hold(t, "(R)"+many(63, "[")+"R"+many(63, "]")+"(R)", 1, api.L, "RRR"+many(63, "R")+"R"+many(63, "R")+"RRR")
}

// besides is pairs one behind the other.
func besides(n int) [][2]int {
	var l [][2]int
	for k := range n {
		l = append(l, [2]int{2 * k, 2*k + 1})
	}
	return l
}

// P11.1: what becomes of a pair with strong ones between, or none.
func TestBetween(t *testing.T) {
	holdChanges(t, []change{
		// Nothing between.
		{"()", "??", "??"}, {"(?)", "???", "???"}, {"(_$s0)", "?_$s0?", "?_$s0?"}, {"L()", "L??", "L??"}, {"R(?)", "R???", "R???"}, {"(A)", "?A?", "?A?"}, {"(+#,ijfpeoEO.~)", "?+#,ijfpeoEO.~?", "?+#,ijfpeoEO.~?"}, {"('')", "????", "????"},
		// Behind the pair, or ahead of it alone, strong ones tell nothing.
		{"()L", "??L", "??L"}, {"()R", "??R", "??R"}, {"L(?)R", "L???R", "L???R"}, {"R(_)L1", "R?_?L1", "R?_?L1"}, {"LR12()12LR", "LR12??12LR", "LR12??12LR"},
		// Both sides between, in either order.
		{"(LR)", "LLRL", "RLRR"}, {"(RL)", "LRLL", "RRLR"}, {"(L1)", "LL1L", "RL1R"}, {"(2L)", "L2LL", "R2LR"}, {"R(LR)", "RLLRL", "RRLRR"}, {"L(RL)", "LLRLL", "LRRLR"}, {"(?L_R?)", "L?L_R?L", "R?L_R?R"},
	})
	holdRows(t, []row{
		// One side alone between, with none ahead.
		{"(L)", "LLL", "LLL", "LLL", "RLR"}, {"(R)", "LRL", "RRR", "RRR", "RRR"}, {"(1)", "L1L", "R1R", "R1R", "R1R"}, {"(2)", "L2L", "R2R", "R2R", "R2R"},
		{"(?L?)", "L?L?L", "L?L?L", "L?L?L", "R?L?R"}, {"(?R?)", "L?R?L", "R?R?R", "R?R?R", "R?R?R"}, {"(R12)", "LR12L", "RR12R", "RR12R", "RR12R"}, {"(LAL)", "LLALL", "LLALL", "LLALL", "RLALR"},
		{"?_A(R)", "?_ALRL", "?_ARRR", "?_ARRR", "?_ARRR"}, {"A(L)", "ALLL", "ALLL", "ALLL", "ARLR"},
	})
	holdChanges(t, []change{
		// The sequence's side, whatever is ahead.
		{"L(L)", "LLLL", "LLLL"}, {"R(R)", "RRRR", "RRRR"},
		// The other side alone, behind that, and behind the sequence's side.
		{"L(R)", "LLRL", "LRRR"}, {"R(L)", "RLLL", "RRLR"}, {"L(1)", "LL1L", "LR1R"}, {"L(2)", "LL2L", "LR2R"}, {"1(R)", "1RRR", "1RRR"}, {"2(R)", "2RRR", "2RRR"}, {"1(2)", "1R2R", "1R2R"}, {"2(1)", "2R1R", "2R1R"}, {"1(L)", "1LLL", "1RLR"}, {"2(L)", "2LLL", "2RLR"}, {"R(1)", "RR1R", "RR1R"},
		// The nearest ahead counts, however far it is.
		{"LR(1)", "LRR1R", "LRR1R"}, {"RL(1)", "RLL1L", "RLR1R"}, {"LR(L)", "LRLLL", "LRRLR"}, {"RL(L)", "RLLLL", "RLLLL"}, {"L2(R)", "L2RRR", "L2RRR"}, {"1L(R)", "1LLRL", "1LRRR"},
		{"L?_$s0A+#,ijfpeoEO.~(R)", "L?_$s0A+#,ijfpeoEO.~LRL", "L?_$s0A+#,ijfpeoEO.~RRR"}, {"R?_$s0A+#,ijfpeoEO.~(R)", "R?_$s0A+#,ijfpeoEO.~RRR", "R?_$s0A+#,ijfpeoEO.~RRR"}, {"R?_$s0A+#,ijfpeoEO.~(L)", "R?_$s0A+#,ijfpeoEO.~LLL", "R?_$s0A+#,ijfpeoEO.~RLR"}, {"L?_$s0A+#,ijfpeoEO.~(L)", "L?_$s0A+#,ijfpeoEO.~LLL", "L?_$s0A+#,ijfpeoEO.~LLL"},
		{"L" + many(300, "?_") + "(R)", "L" + many(300, "?_") + "LRL", "L" + many(300, "?_") + "RRR"},
		// What is behind the place that opens is not ahead.
		{"L(R)R", "LLRLR", "LRRRR"}, {"R(L)L", "RLLLL", "RRLRL"},
	})
}

// P11.1: those that are no pair stay, whatever is between.
func TestNoPair(t *testing.T) {
	holdChanges(t, []change{
		{"(L", "?L", "?L"}, {"L)", "L?", "L?"}, {")L(", "?L?", "?L?"}, {"(L]", "?L?", "?L?"}, {"R(R]1", "R?R?1", "R?R?1"},
		{"R([L)L]", "RL?LLL?", "RR?LRL?"},
		{"L([R)R]", "LL?RLR?", "LR?RRR?"},
	})
}

// P11.1: what becomes of a pair hangs on what those ahead of it, and about it, have become; they go by the places that open.
func TestChangesAhead(t *testing.T) {
	holdChanges(t, []change{
		// Behind one another.
		{"L(R)(R)", "LLRLLRL", "LRRRRRR"}, {"R(L)(L)", "RLLLLLL", "RRLRRLR"}, {"R(R)(R)", "RRRRRRR", "RRRRRRR"},
		{"L(R)[R]{R}<R>", "LLRLLRLLRLLRL", "LRRRRRRRRRRRR"}, {"R(L)[L]{L}<L>", "RLLLLLLLLLLLL", "RRLRRLRRLRRLR"},
		{"L(1)?(2)", "LL1L?L2L", "LR1R?R2R"}, {"L(R)1(2)", "LLRL1R2R", "LRRR1R2R"}, {"R(L)R(L)", "RLLLRLLL", "RRLRRRLR"},
		{"R(RL)(R)", "RLRLLLRL", "RRRLRRRR"}, {"L(LR)(L)", "LLLRLLLL", "LRLRRRLR"},
		// One that stays is not strong.
		{"L()(R)", "L??LRL", "L??RRR"}, {"R(?)(L)", "R???LLL", "R???RLR"}, {"L(R)()(R)", "LLRL??LRL", "LRRR??RRR"},
		// Within one another.
		{"R[(R)L]", "RLLRLLL", "RRRRRLR"}, {"L[(L)R]", "LLLLLRL", "LRRLRRR"}, {"L[(R)]", "LLLRLL", "LRRRRR"}, {"R[(L)]", "RLLLLL", "RRRLRR"}, {"R[(R)]", "RRRRRR", "RRRRRR"},
		{"R[L(R)]", "RLLLRLL", "RRLRRRR"}, {"L[R(L)]", "LLRLLLL", "LRRRLRR"}, {"R[R(R)L]", "RLRRRRLL", "RRRRRRLR"}, {"L[L(L)R]", "LLLLLLRL", "LRLLLLRR"},
		{"R[{(L)}]", "RLLLLLLL", "RRRRLRRR"}, {"R[{(R)}L]", "RLLLRLLLL", "RRRRRRRLR"},
		{"R[()L]", "RL??LL", "RR??LR"}, {"R[L()]", "RLL??L", "RRL??R"}, {"[()]", "????", "????"}, {"[(?){}]", "???????", "???????"},
		// Behind one about others.
		{"R[(R)L](R)", "RLLRLLLLRL", "RRRRRLRRRR"}, {"L(R[R]){R}", "LLRRRRLLRL", "LRRRRRRRRR"},
	})
	holdRows(t, []row{
		{"(R)(R)", "LRLLRL", "RRRRRR", "RRRRRR", "RRRRRR"}, {"(L)(L)", "LLLLLL", "LLLLLL", "LLLLLL", "RLRRLR"}, {"[(R)]", "LLRLL", "RRRRR", "RRRRR", "RRRRR"}, {"[(L)]", "LLLLL", "LLLLL", "LLLLL", "RRLRR"},
		{"(L)(R)", "LLLLRL", "LLLLRL", "LLLRRR", "RLRRRR"}, {"(R)(L)", "LRLLLL", "RRRLLL", "RRRRLR", "RRRRLR"},
	})
}

// P11.1: NSMs behind a place that became a side become it, too.
func TestMarksBehind(t *testing.T) {
	holdChanges(t, []change{
		// Behind the one that opens, behind the one that closes, and behind both; several; at the end.
		{"L('R)?", "LLLRL?", "LRRRR?"}, {"L(R)'?", "LLRLL?", "LRRRR?"}, {"L('R)'?", "LLLRLL?", "LRRRRR?"}, {"R('''L)''?", "RLLLLLLLL?", "RRRRRLRRR?"},
		{"R(L)'", "RLLLL", "RRLRR"}, {"R(L)'''", "RLLLLLL", "RRLRRRR"}, {"R(L)" + many(300, "'"), "RLLL" + many(300, "L"), "RRLR" + many(300, "R")},
		{"R('L')'", "RLLL?LL", "RRRL?RR"},
		// One after the other, from that place on alone.
		{"R(L)?'", "RLLL??", "RRLR??"}, {"R(L)'?'", "RLLLL??", "RRLRR??"}, {"R(?'L)_'", "RL??LL_?", "RR??LR_?"}, {"R'(L)", "R?LLL", "R?RLR"}, {"''R(L)''R''", "??RLLLLLR??", "??RRLRRRR??"},
		// Behind a pair that stays, and behind those that are no pair.
		{"R()''", "R????", "R????"}, {"L('')'", "L?????", "L?????"}, {"L(?')'R", "L?????R", "L?????R"}, {"L('R", "L??R", "L??R"}, {"R)'L(", "R??L?", "R??L?"}, {"R(L)']'", "RLLLL??", "RRLRR??"},
		// Whatever class they are by now.
		{"L(R)r", "LLRLL", "LRRRR"}, {"L(R)l", "LLRLL", "LRRRR"}, {"R(L)r", "RLLLL", "RRLRR"}, {"R(L)l", "RLLLL", "RRLRR"}, {"L(R)n?", "LLRLL?", "LRRRR?"}, {"R(L)lrn'lR", "RLLLLLLLLR", "RRLRRRRRRR"},
		{"R(lL)", "RLLLL", "RRRLR"}, {"L(rR)", "LLLRL", "LRRRR"},
		// They are strong ones between, and ahead, as others are.
		{"R(l)", "RLLL", "RRRR"}, {"L(r)", "LLLL", "LRRR"}, {"L(n)", "LLLL", "LRRR"}, {"l(R)", "LLRL", "LRRR"}, {"n(R)", "1RRR", "1RRR"}, {"r(L)", "RLLL", "RRLR"},
		{"L(r)r(R)", "LLLLLLRL", "LRRRRRRR"}, {"R[b')L]", "RLLLLLL", "RRRRRLR"},
		// One that did not come as NSM is none, whatever it is by now.
		{"R(L)?", "RLLL?", "RRLR?"}, {"R(L),'", "RLLL,?", "RRLR,?"},
		// Brackets that came so.
		{"R(L)bd", "RLLLLL", "RRLRRR"}, {"R(L)b)", "RLLLL?", "RRLRR?"}, {"R[b)L]", "RLL?LL", "RRR?LR"}, {"R(L)bR)", "RLLLLRL", "RRLRRRR"}, {"R(L)gL)", "RLLLLL?", "RRLRRL?"}, {"R(R)bLd", "RRRRLLL", "RRRRRLR"}, {"R(R)b'Ld", "RRRRLLLL", "RRRRRRLR"},
	})
	holdRows(t, []row{
		{"bLd''", "LLLLL", "LLLLL", "LLLLL", "RLRRR"}, {"('R)'?", "LLRLL?", "RRRRR?", "RRRRR?", "RRRRR?"}, {"'(L)", "?LLL", "?LLL", "?LLL", "?RLR"},
	})
	// What it came as counts, not what it is by now.
	g := of("R(L)???")
	g.came[4], g.came[5] = api.NSM, api.NSM
	g.l[5], g.l[6] = api.NSM, api.NSM
	holdList(t, g, 0, api.R, append(classes("RLLLLL"), api.NSM))
}

// P11.1: all texts up to some length, of letters that have to do with one another, on both sorts of levels, behind both sides, as read another way.
func TestAllShort(t *testing.T) {
	for _, x := range []struct {
		of   string
		most int
	}{
		{letters + marked + cameMarks + string(other), 3},
		{"()[]", 7},
		{"()[]?L", 6},
		{"(L)R?", 6},
		{"([LR1)]'", 5},
		{"(L)'lr?", 5},
		{"()LRbd'r", 5},
	} {
		each(x.of, x.most, func(s string) {
			g := of(s)
			pairs := readPairs(g.l, g.marks)
			holdPairs(t, g, pairs)
			for level := range 2 {
				for _, first := range sides {
					holdList(t, g, level, first, readResolved(g, pairs, level, first))
				}
			}
		})
	}
}

// mixed is a long text that a rule of its own mixes.
func mixed(of string, n, at int) string {
	b := make([]byte, n)
	for i := range b {
		at = at * 75 % 65537
		b[i] = of[at%len(of)]
	}
	return string(b)
}

// eachMixed hands out long texts.
func eachMixed(do func(given)) {
	for _, some := range []string{letters + marked + cameMarks + string(other), "()[]{}LR1?", "()LR?'", "([{<>}])", "(LR)bd", "bdlr(L)", "((((L)))R'", "(L'rbdgq)[R]"} {
		for at := range 60 {
			do(of(mixed(some, 40+7*at, at+1)))
		}
	}
}

// P11.1: long texts of all sorts, as read another way.
func TestAllMixed(t *testing.T) {
	eachMixed(func(g given) {
		pairs := readPairs(g.l, g.marks)
		holdPairs(t, g, pairs)
		for level := range 2 {
			for _, first := range sides {
				holdList(t, g, level, first, readResolved(g, pairs, level, first))
			}
		}
	})
}

// wellNested holds that pairs are, by the places that open, rising.
func wellNested(t *testing.T, g given) {
	t.Helper()
	pairs := bracket.Pairs(g.l, g.marks)
	taken := map[int]int{}
	for k, p := range pairs {
		if p[0] < 0 || p[0] >= p[1] || p[1] >= len(g.l) || k > 0 && pairs[k-1][0] >= p[0] {
			t.Fatalf("pairs of %v, %v: %v", g.l, g.marks, pairs)
		}
		taken[p[0]]++
		taken[p[1]]++
		for _, q := range pairs[:k] {
			if within, behind := q[0] < p[0] && p[1] < q[1], q[1] < p[0]; !within && !behind {
				t.Fatalf("pairs of %v, %v: %v and %v", g.l, g.marks, q, p)
			}
		}
	}
	if len(taken) != 2*len(pairs) {
		t.Fatalf("pairs of %v, %v: %v", g.l, g.marks, pairs)
	}
}

// P11.2: of two pairs one lies between the other one's places, or wholly ahead of, or behind it; no place is in two.
func TestWellNested(t *testing.T) {
	each("()[]{}", 6, func(s string) { wellNested(t, of(s)) })
	each("()[L]", 7, func(s string) { wellNested(t, of(s)) })
	eachMixed(func(g given) { wellNested(t, g) })
	for n := range 2 * most {
		wellNested(t, of(many(n, "([")+many(n, ")")+many(n, "]")+"()"))
	}
}

// P11.1: levels that are odd, and even, up to very great ones.
func TestLevels(t *testing.T) {
	for _, level := range []int{0, 1, 2, 3, 4, 61, 62, 63, 124, 125, 126, 127, 255, 256, 1<<31 - 1, 1 << 31, 1 << 32, 1<<32 + 1, math.MaxInt - 1, math.MaxInt} {
		for _, x := range []change{{"(LR)", "LLRL", "RLRR"}, {"L(R)", "LLRL", "LRRR"}, {"R(L)", "RLLL", "RRLR"}, {"R()", "R??", "R??"}, {"", "", ""}} {
			for _, first := range sides {
				if level%2 == 0 {
					hold(t, x.text, level, first, x.even)
				} else {
					hold(t, x.text, level, first, x.odd)
				}
			}
		}
	}
}

// refused holds that what is handed in is wrong.
func refused(t *testing.T, g given, level int, first api.Class) {
	t.Helper()
	kept := g.kept()
	if l, e := bracket.Resolve(g.came, g.l, g.marks, level, first); e != api.ErrArg || len(l) != 0 {
		t.Errorf("%v that came as %v on level %d behind %d: %v, %v", g.l, g.came, level, first, l, e)
	}
	if !g.is(kept) {
		t.Errorf("%v: with an error what is handed in is written into", kept)
	}
}

// P11.1, P1: levels below 0, whatever else is handed in.
func TestNoLevel(t *testing.T) {
	for _, level := range []int{math.MinInt, math.MinInt + 1, -1 << 32, -256, -126, -125, -3, -2, -1} {
		for _, s := range []string{"", "L", "(R)", "L(R)'"} {
			for _, first := range []api.Class{api.L, api.R, api.AL, -1} {
				refused(t, of(s), level, first)
			}
		}
		refused(t, given{}, level, api.L)
	}
}

// P11.1, P1: first sides that are neither L nor R, whatever else is handed in.
func TestNoSide(t *testing.T) {
	wrong := slices.Clone(noClasses)
	for c := int(api.AL); c <= int(api.PDI); c++ {
		wrong = append(wrong, c)
	}
	for _, first := range wrong {
		for _, s := range []string{"", "L", "()", "L(R)", "(R)"} {
			for level := range 3 {
				refused(t, of(s), level, api.Class(first))
			}
		}
		refused(t, given{}, 0, api.Class(first))
	}
}

// P11.1, P1: fewer classes than they were ahead of layer 10, and more.
func TestNotAsMany(t *testing.T) {
	g := of("L(R)'")
	for n := range len(g.l) + 1 {
		for k := range len(g.l) + 1 {
			if n == k {
				continue
			}
			refused(t, given{g.came[:n], g.l[:k], g.marks}, 0, api.L)
			refused(t, given{g.came[:n], g.l[:k], nil}, 1, api.R)
		}
	}
	refused(t, given{nil, g.l, g.marks}, 0, api.L)
	refused(t, given{g.came, nil, g.marks}, 0, api.L)
	refused(t, given{of(many(300, "L")).came, of(many(299, "L")).l, nil}, 0, api.L)
}

// P11.1: numbers that are no class stay: they are neither strong, nor NSM, nor ON.
func TestNoClass(t *testing.T) {
	for _, number := range noClasses {
		for _, s := range []string{"~", "(~)", "L(~)", "~(R)", "(R)~", "L(R)~'", "(~R~)~", "L~(R)", "(~)R"} {
			g := of(s)
			for i := range s {
				if s[i] == other {
					g.came[i], g.l[i] = api.Class(number), api.Class(number)
				}
			}
			for level := range 2 {
				for _, first := range sides {
					want := readResolved(g, readPairs(g.l, g.marks), level, first)
					holdList(t, g, level, first, want)
					for i := range s {
						if s[i] == other && want[i] != api.Class(number) {
							t.Fatal(s, want)
						}
					}
				}
			}
			// One that came as NSM goes with what is ahead, whatever number it is by now; one that did not stays.
			h := of("R(L)''")
			h.l[4] = api.Class(number)
			h.came[5] = api.Class(number)
			holdList(t, h, 0, api.L, classes("RLLLL?"))
		}
	}
}

// P11.1, P1: long lists, gone through at once.
func TestLong(t *testing.T) {
	const n = 100000
	for _, x := range []struct {
		text  string
		level int
		first api.Class
		want  string
	}{
		{many(n, "(L)"), 0, api.R, many(n, "LLL")},
		{many(n, "(R)"), 0, api.L, many(n, "LRL")},
		{many(n, "R(L)"), 1, api.L, many(n, "RRLR")},
		{many(n, "()") + "R", 0, api.R, many(n, "??") + "R"},
		{many(n, "(") + "R" + many(n, ")"), 0, api.R, many(n, "?") + "R" + many(n, "?")},
		{many(n, ")") + "(R)", 0, api.R, many(n, "?") + "RRR"},
		{many(n, "([)"), 1, api.R, many(n, "???")},
		{"(" + many(n, "[{<)(") + "R)", 0, api.R, many(5*n, "?") + "RRR"},
		{"L" + many(n, "?_") + "(R)", 0, api.R, "L" + many(n, "?_") + "LRL"},
		{many(62, "(") + many(n, "{R}") + many(62, ")"), 0, api.L, many(62, "L") + many(n, "LRL") + many(62, "L")},
		{many(62, "(") + many(n, "{}") + "R" + many(62, ")"), 0, api.R, many(62, "R") + many(n, "??") + "R" + many(62, "R")},
		{many(63, "(") + many(n, "'") + "R" + many(63, ")") + many(n, "'"), 0, api.L, many(63, "L") + many(n, "L") + "R" + many(63, "L") + many(n, "L")},
		// Each of the places behind the first one came as NSM, and each of the pairs is strong.
		{many(n, "brd"), 0, api.R, many(n, "RRR")},
		{many(n, "bld"), 1, api.R, many(n, "RRR")},
		{many(n, "brd"), 0, api.L, many(n, "LLL")},
		{many(n, "blrd"), 1, api.L, many(n, "RRRR")},
		{"L[" + many(n, "brd") + "L]", 0, api.R, "LL" + many(n, "LLL") + "LL"},
		{many(40, "[") + many(n, "brd") + many(20, "q") + many(n, "brd") + many(20, "q"), 0, api.R, many(40, "R") + many(n, "RRR") + many(20, "R") + many(n, "RRR") + many(20, "R")},
	} {
		g := of(x.text)
		got, e := bracket.Resolve(g.came, g.l, g.marks, x.level, x.first)
		want := classes(x.want)
		if e != api.OK || !slices.Equal(got, want) {
			at := 0
			for at < min(len(got), len(want)) && got[at] == want[at] {
				at++
			}
			t.Fatalf("%.20q and on, on level %d behind %d: %v, other at %d", x.text, x.level, x.first, e, at)
		}
	}
}

// P2: what is handed in is not written into; what lies behind its length is neither read nor written.
func TestGivenStays(t *testing.T) {
	const s = "R[(L)''R]?'(1b'2d)lr{[}L](R)'n<_>[L('"
	whole := of(s)
	kept := whole.kept()
	for cut := range len(s) + 1 {
		short := of(s[:cut])
		pairs := readPairs(short.l, short.marks)
		for level := range 2 {
			for _, first := range sides {
				want := readResolved(short, pairs, level, first)
				part := given{whole.came[:cut], whole.l[:cut], whole.marks[:cut]}
				holdPairs(t, part, pairs)
				holdList(t, part, level, first, want)
				if !whole.is(kept) {
					t.Fatalf("%q: what is handed in is written into", s[:cut])
				}
				for _, behind := range []string{"L", "R", ")", "]", "}", "''", "'R)]", "d'q"} {
					more := of(s[:cut] + behind)
					before := more.kept()
					part := given{more.came[:cut], more.l[:cut], more.marks[:cut]}
					holdPairs(t, part, pairs)
					holdList(t, part, level, first, want)
					if !more.is(before) {
						t.Fatalf("%q, behind it %q: what is handed in is written into", s[:cut], behind)
					}
				}
			}
		}
	}
}

// P2: what is answered shares no memory with what was handed in, or with another answer.
func TestNewMemory(t *testing.T) {
	for _, s := range []string{"", "L", "()", "(R)", "L[(R)']'", letters + marked + cameMarks, many(50, "(L'R)d'")} {
		g := of(s)
		kept, pairs := g.kept(), readPairs(g.l, g.marks)
		one, two := bracket.Pairs(g.l, g.marks), bracket.Pairs(g.l, g.marks)
		for i := range one[:cap(one)] {
			one[:cap(one)][i] = [2]int{-7, -8}
		}
		if !g.is(kept) || !slices.Equal(two, pairs) {
			t.Fatalf("pairs of %q: memory is shared", s)
		}
		want := readResolved(g, pairs, 1, api.L)
		l, _ := bracket.Resolve(g.came, g.l, g.marks, 1, api.L)
		m, _ := bracket.Resolve(g.came, g.l, g.marks, 1, api.L)
		for i := range l[:cap(l)] {
			l[:cap(l)][i] = -7
		}
		if !g.is(kept) || !slices.Equal(m, want) {
			t.Fatalf("%q: memory is shared", s)
		}
		for i := range g.l {
			g.came[i], g.l[i], g.marks[i] = -9, -9, bracket.Mark{Kind: -9, ID: -9}
		}
		if !slices.Equal(m, want) || !slices.Equal(two, pairs) {
			t.Fatalf("%q: what was handed in is kept", s)
		}
		holdPairs(t, kept, pairs)
		holdList(t, kept, 1, api.L, want)
	}
}

// P2: the classes ahead of layer 10, and behind it, may be one list.
func TestOneList(t *testing.T) {
	for _, s := range []string{"L(R)", "(1)[L](R)", "([{L}])"} {
		g := of(s)
		g.came = g.l
		holdList(t, g, 0, api.R, readResolved(g.kept(), readPairs(g.l, g.marks), 0, api.R))
		if !slices.Equal(g.l, of(s).l) {
			t.Fatal(g.l)
		}
	}
}

// P2: lists that are changed between two calls are read afresh; a call behind one with another level, another side, or an error, answers as if there had been none.
func TestChanged(t *testing.T) {
	g := of("L(R)'")
	first, e := bracket.Resolve(g.came, g.l, g.marks, 0, api.R)
	if e != api.OK || !slices.Equal(first, classes("LLRLL")) {
		t.Fatal(first, e)
	}
	g.l[0] = api.EN
	holdList(t, g, 0, api.R, classes("1RRRR"))
	refused(t, g, -1, api.R)
	g.marks[3].ID = 2
	holdPairs(t, g, nil)
	holdList(t, g, 0, api.R, classes("1?R??"))
	g.marks[1].ID = 2
	holdPairs(t, g, [][2]int{{1, 3}})
	g.came[4] = api.ON
	holdList(t, g, 0, api.R, classes("1RRR?"))
	g.l[0] = api.WS
	holdList(t, g, 0, api.L, classes("_LRL?"))
	holdList(t, g, 0, api.R, classes("_RRR?"))
	holdList(t, g, 1, api.L, classes("_RRR?"))
	if !slices.Equal(first, classes("LLRLL")) {
		t.Error(first)
	}
}
