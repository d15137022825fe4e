package runs_test

import (
	"math"
	"slices"
	"strconv"
	"strings"
	"testing"

	"frisket/api"
	"frisket/explicit"
	"frisket/runs"
)

// letters has one for each class, in the order of their numbers: e, o, E and O for LRE, LRO, RLE and RLO, a point for PDF, and brackets for LRI, RLI, FSI and PDI.
const letters = "LRA1+#2,'0$s_?eoEO.([{)"

// removed has those that are.
const removed = "eoEO.0"

// owners names sequences, by their order.
const owners = "abcdefghijklmnopqrstuvwxyzABCDEFGHIJKLMNOPQRSTUVWXYZ"

// noClasses is numbers that are no class.
var noClasses = []int{math.MinInt, math.MinInt32, -1 << 20, -256, -23, -2, -1, 23, 24, 99, 255, 256, 256 + 9, 256 + 20, 1 << 16, 1 << 32, 1<<32 + 22, math.MaxInt32, math.MaxInt - 1, math.MaxInt}

// noBases is numbers that are no base here.
var noBases = []int{math.MinInt, math.MinInt + 1, -1 << 32, -257, -256, -255, -125, -3, -2, -1, 2, 3, 4, 124, 125, 126, 255, 256, 257, 1 << 31, 1 << 32, 1<<32 + 1, math.MaxInt - 1, math.MaxInt}

// classes is those of letters.
func classes(s string) []api.Class {
	l := make([]api.Class, len(s))
	for i := range s {
		l[i] = api.Class(strings.IndexByte(letters, s[i]))
	}
	return l
}

// digits is levels of one figure, - those that are removed.
func digits(s string) []int {
	l := make([]int, len(s))
	for i := range s {
		l[i] = -1
		if s[i] != '-' {
			l[i] = int(s[i] - '0')
		}
	}
	return l
}

// each hands out all texts of some letters, up to a length.
func each(of string, most int, do func(string)) {
	var grow func(b []byte)
	grow = func(b []byte) {
		do(string(b))
		if len(b) == most {
			return
		}
		for i := range of {
			grow(append(b, of[i]))
		}
	}
	grow(make([]byte, 0, most))
}

// eachLevels hands out all levels, below a number, that a text may have.
func eachLevels(s string, below int, do func([]int)) {
	l := make([]int, len(s))
	var fill func(i int)
	fill = func(i int) {
		switch {
		case i == len(s):
			do(l)
		case strings.IndexByte(removed, s[i]) >= 0:
			l[i] = -1
			fill(i + 1)
		default:
			for level := range below {
				l[i] = level
				fill(i + 1)
			}
		}
	}
	fill(0)
}

// told is sequences as a text: of each scalar the name of the one that has it, - of none; behind that each one's level and its sides. It is "wrong", if a scalar is told twice, or places do not rise.
func told(n int, all []runs.Seq) string {
	b := []byte(strings.Repeat("-", n))
	tail := ""
	for k, s := range all {
		for i, place := range s.Places {
			if place < 0 || place >= n || b[place] != '-' || i > 0 && place <= s.Places[i-1] {
				return "wrong"
			}
			b[place] = owners[k%len(owners)]
		}
		tail += " " + strconv.Itoa(s.Level) + sideName(s.First) + sideName(s.Last)
	}
	return string(b) + tail
}

// sideName is a side as a letter.
func sideName(c api.Class) string {
	if c == api.L || c == api.R {
		return letters[c : c+1]
	}
	return "wrong"
}

// holdSplit holds what Split makes.
func holdSplit(t *testing.T, s string, levels []int, base int, want string) {
	t.Helper()
	all, e := runs.Split(classes(s), levels, base)
	if e != api.OK || told(len(s), all) != want {
		t.Fatalf("Split of %q, %v, base %d: %q, %v, want %q", s, levels, base, told(len(s), all), e, want)
	}
}

// holdPrepare holds what Prepare makes, and that this is what Split makes of the levels.
func holdPrepare(t *testing.T, s string, base int, want string) {
	t.Helper()
	all, as, e := runs.Prepare(classes(s), base)
	if e != api.OK || told(len(s), all) != want {
		t.Fatalf("Prepare of %q, base %d: %q, %v, want %q", s, base, told(len(s), all), e, want)
	}
	levels, wantAs, _ := explicit.Levels(classes(s), base)
	if !slices.Equal(as, wantAs) {
		t.Fatalf("Prepare of %q, base %d: %v, want %v", s, base, as, wantAs)
	}
	holdSplit(t, s, levels, base, want)
}

// near is the nearest place that is not removed, ahead of one (by -1) or behind it (by 1); -1, if there is none.
func near(levels []int, i, by int) int {
	for i += by; i >= 0 && i < len(levels); i += by {
		if levels[i] >= 0 {
			return i
		}
	}
	return -1
}

// readEnd is where the isolate ends that begins at a place: as many begin as end between.
func readEnd(s string, i int) int {
	if strings.IndexByte("([{", s[i]) < 0 {
		return -1
	}
	for end := i + 1; end < len(s) && s[end] != '$'; end++ {
		between := s[i+1 : end]
		begun := strings.Count(between, "(") + strings.Count(between, "[") + strings.Count(between, "{")
		if s[end] == ')' && begun == strings.Count(between, ")") {
			return end
		}
	}
	return -1
}

// readNext is the place behind one in its sequence; -1, if it is the last one.
func readNext(s string, levels []int, i int) int {
	next := near(levels, i, 1)
	if next >= 0 && levels[next] == levels[i] {
		return next
	}
	end := readEnd(s, i)
	if end >= 0 && levels[near(levels, end, -1)] != levels[end] {
		return end
	}
	return -1
}

// read is sequences as a text, scalar by scalar, as the chapter's words tell them.
func read(s string, levels []int, base int) string {
	at := func(i int) int {
		if i < 0 {
			return base
		}
		return levels[i]
	}
	b, begun, tail := []byte(s), []byte(owners), ""
	next, follows := make([]int, len(s)), make([]bool, len(s))
	for i := range s {
		b[i] = '-'
		if levels[i] >= 0 {
			next[i] = readNext(s, levels, i)
			if next[i] >= 0 {
				follows[next[i]] = true
			}
		}
	}
	for first := range s {
		if levels[first] < 0 || follows[first] {
			continue
		}
		last := first
		for i := first; i >= 0; i = next[i] {
			b[i], last = begun[0], i
		}
		begun = begun[1:]
		behind := at(near(levels, last, 1))
		if strings.IndexByte("([{", s[last]) >= 0 {
			behind = base
		}
		tail += " " + strconv.Itoa(levels[first]) + "LR"[max(levels[first], at(near(levels, first, -1)))%2:][:1] + "LR"[max(levels[first], behind)%2:][:1]
	}
	return string(b) + tail
}

// P9.1: the numbers of the classes are those of the letters, and what is wrong has its name.
func TestNumbers(t *testing.T) {
	want := []api.Class{api.L, api.R, api.AL, api.EN, api.ES, api.ET, api.AN, api.CS, api.NSM, api.BN, api.B, api.S, api.WS, api.ON, api.LRE, api.LRO, api.RLE, api.RLO, api.PDF, api.LRI, api.RLI, api.FSI, api.PDI}
	if l := classes(letters); !slices.Equal(l, want) {
		t.Fatal(l)
	}
	if api.MaxLevel != 125 || api.ErrLevel != 81 {
		t.Fatal(api.MaxLevel, api.ErrLevel)
	}
	for _, x := range []struct {
		places [][]int
		want   string
	}{
		{[][]int{{0, 2}, {1}}, "aba 0LL 0LL"},
		{[][]int{{0, 2}}, "a-a 0LL"},
		{[][]int{{0, 2}, {2}}, "wrong"},
		{[][]int{{2, 0}}, "wrong"},
		{[][]int{{0, 0}}, "wrong"},
		{[][]int{{3}}, "wrong"},
		{[][]int{{-1}}, "wrong"},
	} {
		var all []runs.Seq
		for _, places := range x.places {
			all = append(all, runs.Seq{Places: places})
		}
		if got := told(3, all); got != x.want {
			t.Fatalf("%v: %q", x.places, got)
		}
	}
}

// P9.1: no classes, and nil.
func TestNothing(t *testing.T) {
	for base := range 2 {
		for _, l := range [][]api.Class{nil, {}} {
			for _, levels := range [][]int{nil, {}} {
				if all, e := runs.Split(l, levels, base); len(all) != 0 || e != api.OK {
					t.Errorf("base %d: %v, %v", base, all, e)
				}
			}
			if all, as, e := runs.Prepare(l, base); len(all) != 0 || len(as) != 0 || e != api.OK {
				t.Errorf("base %d: %v, %v, %v", base, all, as, e)
			}
		}
	}
}

// P9.1: each class alone, with each base.
func TestAlone(t *testing.T) {
	for i := range letters {
		s := letters[i : i+1]
		for base, want := range []string{"a 0LL", "a 1RR"} {
			if strings.Contains(removed, s) {
				want = "-"
			}
			holdPrepare(t, s, base, want)
		}
	}
}

// row is a text, and its sequences with the base 0, and with 1.
type row struct{ text, even, odd string }

// holdRows holds what Prepare makes of texts, written out.
func holdRows(t *testing.T, rows []row) {
	t.Helper()
	for _, x := range rows {
		holdPrepare(t, x.text, 0, x.even)
		holdPrepare(t, x.text, 1, x.odd)
	}
}

// P9.1: removed scalars part nothing, wherever they stand.
func TestRemoved(t *testing.T) {
	holdRows(t, []row{
		// Nothing but them.
		{"0", "-", "-"},
		{"eoEO.0", "------", "------"},
		{"000", "---", "---"},
		// Ahead of all, behind all, and between.
		{"0L", "-a 0LL", "-a 1RR"},
		{"L0", "a- 0LL", "a- 1RR"},
		{".0L", "--a 0LL", "--a 1RR"},
		{"L0.", "a-- 0LL", "a-- 1RR"},
		{"L0R", "a-a 0LL", "a-a 1RR"},
		{"L0.L0L.", "a--a-a- 0LL", "a--a-a- 1RR"},
		{"0L0", "-a- 0LL", "-a- 1RR"},
		{"LE.L", "a--a 0LL", "a--a 1RR"},
		{"LE0e.o..L", "a-------a 0LL", "a-------a 1RR"},
		// Ahead of another level, and behind it: they are none that a side hangs on.
		{"E1.", "-a- 1RR", "-a- 3RR"},
		{"0e1.0", "--a-- 2LL", "--a-- 2LL"},
		{"0E0L0.0", "---a--- 1RR", "---a--- 3RR"},
		{"1E01", "a--b 0LR 1RR", "a--b 1RR 3RR"},
		{"1e01.", "a--b- 0LL 2LL", "a--b- 1RL 2LL"},
		{"1E1.01", "a-b--c 0LR 1RR 0RL", "a-b--c 1RR 3RR 1RR"},
		{"1E1.E1", "a-b--b 0LR 1RR", "a-b--b 1RR 3RR"},
		// Between an isolate's beginning, and what stands behind it.
		{"[0L)", "a-ba 0LL 1RR", "a-ba 1RR 3RR"},
		{"[0)", "a-a 0LL", "a-a 1RR"},
		{"[0", "a- 0LL", "a- 1RR"},
		{"[E1.)", "a-b-a 0LL 3RR", "a-b-a 1RR 5RR"},
		{"[e1.)", "a-b-a 0LL 2LL", "a-b-a 1RR 4LL"},
		{"[.)", "a-a 0LL", "a-a 1RR"},
		{"[E)", "a-a 0LL", "a-a 1RR"},
		{"[E0.)1", "a---aa 0LL", "a---aa 1RR"},
		{"L0[L0)0L", "a-ab-a-a 0LL 1RR", "a-ab-a-a 1RR 3RR"},
		{"(0", "a- 0LL", "a- 1RR"},
		{"(0L", "a-b 0LL 2LL", "a-b 1RR 2LL"},
	})
}

// P9.1: runs of levels, that are parted where these change, and nowhere else.
func TestLevelRuns(t *testing.T) {
	holdRows(t, []row{
		{"LRA1+#2,'$s_?)", "aaaaaaaaaaaaaa 0LL", "aaaaaaaaaaaaaa 1RR"},
		{"L1E1.L", "aa-b-c 0LR 1RR 0RL", "aa-b-c 1RR 3RR 1RR"},
		{"L1e1.L", "aa-b-c 0LL 2LL 0LL", "aa-b-c 1RL 2LL 1LR"},
		{"1E1e1E1.1.1.1", "a-b-c-d-e-f-g 0LR 1RL 2LR 3RR 2RL 1LR 0RL", "a-b-c-d-e-f-g 1RR 3RL 4LR 5RR 4RL 3LR 1RR"},
		{"E1R.L", "-aa-b 1RR 0RL", "-aa-b 3RR 1RR"},
		{"Le1", "a-b 0LL 2LL", "a-b 1RL 2LL"},
		{"E1.1E1.1", "-a-b-c-d 1RR 0RR 1RR 0RL", "-a-b-c-d 3RR 1RR 3RR 1RR"},
		{"ee1.1.", "--a-b- 4LL 2LL", "--a-b- 4LL 2LL"},
		{"EE1.1.", "--a-b- 3RR 1RR", "--a-b- 5RR 3RR"},
	})
}

// P9.1: an isolate's end goes on the run that ends with its beginning.
func TestIsolates(t *testing.T) {
	holdRows(t, []row{
		{"[L)", "aba 0LL 1RR", "aba 1RR 3RR"},
		{"(L)", "aba 0LL 2LL", "aba 1RR 2LL"},
		{"{R)", "aba 0LL 1RR", "aba 1RR 3RR"},
		{"{L)", "aba 0LL 2LL", "aba 1RR 2LL"},
		{"[)", "aa 0LL", "aa 1RR"},
		{"L[R)L", "aabaa 0LL 1RR", "aabaa 1RR 3RR"},
		{"L1[R1)L1", "aaabbaaa 0LL 1RR", "aaabbaaa 1RR 3RR"},
		// Within one another.
		{"[(L)R)L", "abcbbaa 0LL 1RR 2LL", "abcbbaa 1RR 3RR 4LL"},
		{"[(L))", "abcba 0LL 1RR 2LL", "abcba 1RR 3RR 4LL"},
		{"([)L)", "abbba 0LL 2LL", "abbba 1RR 2LL"},
		{"1[1(1{1)1)1)1", "aabbccdccbbaa 0LL 1RR 2LL 4LL", "aabbccdccbbaa 1RR 3RR 4LL 6LL"},
		{"[1(1)1[1)1)", "abbcbbbdbba 0LL 1RR 2LL 3RR", "abbcbbbdbba 1RR 3RR 4LL 5RR"},
		// One behind the other: the end of one begins a run that ends with another one's beginning.
		{"(L)[R)", "abaaca 0LL 2LL 1RR", "abaaca 1RR 2LL 3RR"},
		{"(L)L[R)", "abaaaca 0LL 2LL 1RR", "abaaaca 1RR 2LL 3RR"},
		{"[R)[R)[R)", "abaacaada 0LL 1RR 1RR 1RR", "abaacaada 1RR 3RR 3RR 3RR"},
		{"[R)0(1)E1.", "aba-aca-d- 0LR 1RR 2LL 1RR", "aba-aca-d- 1RR 3RR 2LL 3RR"},
		// Embeddings about them, and within.
		{"E[L)1.L", "-abaa-c 1RR 3RR 0RL", "-abaa-c 3RR 5RR 1RR"},
		{"[E1)1", "a-baa 0LL 3RR", "a-baa 1RR 5RR"},
		{"[R.e1)1", "ab--caa 0LL 1RL 2LL", "ab--caa 1RR 3RL 4LL"},
		{"1E1[1)1.1", "a-bbcbb-d 0LR 1RR 3RR 0RL", "a-bbcbb-d 1RR 3RR 5RR 1RR"},
		{"E1(1E1)1.1", "-aab-caa-d 1RR 2LR 3RR 0RL", "-aab-caa-d 3RR 4LR 5RR 1RR"},
		// Their classes are those that came, whatever an override makes of them.
		{"O[L)L.", "-abaa- 1RR 3RR", "-abaa- 3RR 5RR"},
		{"o(R)1[R)", "-abaaaca 2LL 4LL 3RR", "-abaaaca 2LL 4LL 3RR"},
		{"O[L", "-ab 1RR 3RR", "-ab 3RR 5RR"},
		{"o[L", "-ab 2LL 3RR", "-ab 2LL 3RR"},
	})
}

// P9.1: isolates without an end, and ends of none.
func TestUnended(t *testing.T) {
	holdRows(t, []row{
		// The last scalar of all.
		{"L[", "aa 0LL", "aa 1RR"},
		{"L(", "aa 0LL", "aa 1RR"},
		{"E1{", "-aa 1RR", "-aa 3RR"},
		{"e1{", "-aa 2LL", "-aa 2LL"},
		// With others behind it, whose level no side hangs on.
		{"L[R", "aab 0LL 1RR", "aab 1RR 3RR"},
		{"L(L", "aab 0LL 2LL", "aab 1RR 2LL"},
		{"L{R", "aab 0LL 1RR", "aab 1RR 3RR"},
		{"[R", "ab 0LL 1RR", "ab 1RR 3RR"},
		{"[(L", "abc 0LL 1RR 2LL", "abc 1RR 3RR 4LL"},
		{"([L", "abc 0LL 2LL 3RR", "abc 1RR 2LL 3RR"},
		{"1[E1.1", "aa-b-c 0LL 3RR 1RR", "aa-b-c 1RR 5RR 3RR"},
		{"(L)[R", "abaac 0LL 2LL 1RR", "abaac 1RR 2LL 3RR"},
		{"[L(L)", "abbcb 0LL 1RR 2LL", "abbcb 1RR 3RR 4LL"},
		{"E1(1.E1", "-aab--c 1RR 2LR 3RR", "-aab--c 3RR 4LR 5RR"},
		// With an end that another one takes.
		{"[(L)1", "abcbb 0LL 1RR 2LL", "abcbb 1RR 3RR 4LL"},
		{"E([L)1.1", "-abcbb-b 1RR 2LL 3RR", "-abcbb-b 3RR 4LL 5RR"},
		// Ends of none.
		{")", "a 0LL", "a 1RR"},
		{"L)L", "aaa 0LL", "aaa 1RR"},
		{"E1)1.1", "-aaa-b 1RR 0RL", "-aaa-b 3RR 1RR"},
		{"[L))L", "abaaa 0LL 1RR", "abaaa 1RR 3RR"},
		{"[R)e)R", "aba-cc 0LL 1RR 2LL", "aba-cc 1RL 3RR 2LL"},
		{")[R))", "aabaa 0LL 1RR", "aabaa 1RR 3RR"},
	})
}

// P9.1: several paragraphs: B parts no run, but no isolate goes on behind it.
func TestParagraphs(t *testing.T) {
	holdRows(t, []row{
		{"$$", "aa 0LL", "aa 1RR"},
		{"L$R", "aaa 0LL", "aaa 1RR"},
		{"E1$1", "-abb 1RR 0RL", "-abb 3RR 1RR"},
		{"e1$E1$1", "-ab-cdd 2LL 0LR 1RR 0RL", "-ab-cdd 2LL 1LR 3RR 1RR"},
		{"[L)$[L)", "abaaaca 0LL 1RR 1RR", "abaaaca 1RR 3RR 3RR"},
		{"[$)", "aaa 0LL", "aaa 1RR"},
		{"[L$)L", "abccc 0LL 1RR 0RL", "abccc 1RR 3RR 1RR"},
		{"L($L)", "aaaaa 0LL", "aaaaa 1RR"},
		{"E1(1$)", "-aabcc 1RR 2LL 0LL", "-aabcc 3RR 4LL 1LR"},
		{"[(L)$1", "abcbdd 0LL 1RR 2LL 0RL", "abcbdd 1RR 3RR 4LL 1RR"},
	})
}

// P9.1: isolates and embeddings that are too deep, behind embeddings that are as deep as may be, or nearly so: they stand on one level with what is within them.
func TestTooDeep(t *testing.T) {
	for _, x := range []struct {
		base       int
		of         string // n times, ahead of the tail
		n          int
		tail, want string
	}{
		{0, "E", 62, "1[1)1", "aabaa 123RR 125RR"},
		{0, "E", 63, "1[1)1", "aaaaa 125RR"},
		{0, "E", 63, "1[[1))1", "aaaaaaa 125RR"},
		{0, "E", 63, "[1", "aa 125RR"},
		{0, "E", 63, "[1$1", "aabb 125RR 0RL"},
		{0, "E", 63, "[E1.)1", "a-a-aa 125RR"},
		{0, "E", 64, "1.1.1", "a-a-b 125RR 123RR"},
		{0, "E", 64, "[1)1..[1)", "aaaa--bcb 125RR 123RR 125RR"},
		{0, "E", 62, "[(1)1)1", "abbbbaa 123RR 125RR"},
		{0, "E", 62, "[E1)1", "a-baa 123RR 125RR"},
		{0, "e", 62, "1[1)1", "aabaa 124LL 125RR"},
		{0, "e", 62, "1[1", "aab 124LL 125RR"},
		{0, "e", 62, "1(1)1", "aaaaa 124LL"},
		{0, "e", 62, "1(1)[1)", "aaaaaba 124LL 125RR"},
		{1, "e", 62, "1(", "aa 124LL"},
		{1, "e", 62, "1[1)1", "aabaa 124LL 125RR"},
		{1, "E", 62, "1[1)1", "aaaaa 125RR"},
		{1, "E", 61, "1[1)1", "aabaa 123RR 125RR"},
	} {
		want := strings.Repeat("-", x.n) + x.want
		holdPrepare(t, strings.Repeat(x.of, x.n)+x.tail, x.base, want)
	}
}

// P9.1: isolates within one another, more of them than there are levels: each has a sequence of its own, up to the greatest level, that has one for all.
func TestDeepIsolates(t *testing.T) {
	for _, x := range []struct {
		of     string
		base   int
		second int // the level within the first
		most   int // how many are not too deep
	}{
		{"[", 0, 1, 63},
		{"[", 1, 3, 62},
		{"(", 0, 2, 62},
		{"(", 1, 2, 62},
		{"{", 0, 2, 62},
		{"{", 1, 2, 62},
	} {
		for _, n := range []int{1, 2, 61, 62, 63, 64, 65, 100} {
			all, _, e := runs.Prepare(classes(strings.Repeat(x.of, n)+"1"+strings.Repeat(")", n)), x.base)
			most := min(n, x.most)
			if e != api.OK || len(all) != most+1 {
				t.Fatalf("%d of %q, base %d: %d, %v", n, x.of, x.base, len(all), e)
			}
			for k, s := range all {
				places, level := []int{k, 2*n - k}, x.base
				if k > 0 {
					level = x.second + 2*(k-1)
				}
				if k == most {
					places = nil
					for i := most; i <= 2*n-most; i++ {
						places = append(places, i)
					}
				}
				side := api.Class(level % 2)
				if !slices.Equal(s.Places, places) || s.Level != level || s.First != side || s.Last != side {
					t.Fatalf("%d of %q, base %d: %d: %v, want %v, %d", n, x.of, x.base, k, s, places, level)
				}
			}
		}
	}
}

// P9.1: levels that 8's Levels would not make.
func TestOtherLevels(t *testing.T) {
	for _, x := range []struct{ text, levels, even, odd string }{
		// An isolate's end that begins no run: the last scalar begins an isolate nonetheless.
		{"[L)L", "0111", "abbb 0LL 1RR", "abbb 0RR 1RR"},
		{"[L)", "011", "abb 0LL 1RR", "abb 0RR 1RR"},
		{"(L)", "211", "abb 2LL 1LR", "abb 2LL 1LR"},
		{"([L))", "01100", "abbcc 0LL 1RR 0RL", "abbcc 0RR 1RR 0RR"},
		{"[0L0)0L", "0-1-1-1", "a-b-b-b 0LL 1RR", "a-b-b-b 0RR 1RR"},
		{"[LL)", "0122", "abcc 0LL 1RL 2LL", "abcc 0RR 1RL 2LL"},
		// One on another level than its beginning: the level is that of the first one.
		{"[L)L", "0122", "abaa 0LL 1RL", "abaa 0RR 1RL"},
		{"[L)L", "0120", "abac 0LL 1RL 0LL", "abac 0RL 1RL 0LR"},
		{"[L)L", "0123", "abac 0LR 1RL 3RR", "abac 0RR 1RL 3RR"},
		{"[L)L", "2101", "abac 2LL 1LR 1RR", "abac 2LL 1LR 1RR"},
		{"[)", "01", "aa 0LL", "aa 0RR"},
		{"[)", "10", "aa 1RR", "aa 1RR"},
		{"[)L", "012", "aab 0LL 2LL", "aab 0RL 2LL"},
		{"[0)", "0-1", "a-a 0LL", "a-a 0RR"},
		{"[)[)", "0123", "aabb 0LL 2LL", "aabb 0RL 2LL"},
		{"[)[)", "0112", "aaaa 0LL", "aaaa 0RR"},
		{"([))", "0110", "abba 0LL 1RR", "abba 0RR 1RR"},
		{"([))", "0101", "abba 0LL 1RR", "abba 0RR 1RR"},
		{"[L[L))", "012345", "abcdca 0LL 1RL 2LR 3RL", "abcdca 0RR 1RL 2LR 3RL"},
		// One on the same level as what stands between.
		{"[L)", "000", "aaa 0LL", "aaa 0RR"},
		{"[0)", "0-0", "a-a 0LL", "a-a 0RR"},
		{"[L)", "101", "aba 1RR 0RR", "aba 1RR 0RR"},
		{"L[L)[L)L", "11011011", "aabaacaa 1RR 0RR 0RR", "aabaacaa 1RR 0RR 0RR"},
		// Below the base, and above it, without anything that is nested.
		{"L", "0", "a 0LL", "a 0RR"},
		{"L", "1", "a 1RR", "a 1RR"},
		{"L", "2", "a 2LL", "a 2LL"},
		{"LL", "00", "aa 0LL", "aa 0RR"},
		{"LR", "13", "ab 1RR 3RR", "ab 1RR 3RR"},
		{"LR", "20", "ab 2LL 0LL", "ab 2LL 0LR"},
		{"0L0", "-0-", "-a- 0LL", "-a- 0RR"},
		{"0L.L0", "-0-2-", "-a-b- 0LL 2LL", "-a-b- 0RL 2LL"},
		// B of any levels, and an isolate that has its end behind one alone.
		{"$$", "01", "ab 0LR 1RR", "ab 0RR 1RR"},
		{"[L$)", "0101", "abcd 0LL 1RR 0RR 1RR", "abcd 0RR 1RR 0RR 1RR"},
		{"[$)", "010", "abc 0LL 1RR 0RL", "abc 0RR 1RR 0RR"},
	} {
		holdSplit(t, x.text, digits(x.levels), 0, x.even)
		holdSplit(t, x.text, digits(x.levels), 1, x.odd)
	}
}

// P9.1: the sides of what stands in the middle, written out.
func TestSides(t *testing.T) {
	for _, x := range []struct{ levels, want string }{
		{"101", "0RR"},
		{"202", "0LL"},
		{"102", "0RL"},
		{"201", "0LR"},
		{"010", "1RR"},
		{"212", "1LL"},
		{"012", "1RL"},
		{"210", "1LR"},
		{"313", "1RR"},
		{"213", "1LR"},
		{"121", "2LL"},
		{"323", "2RR"},
		{"123", "2LR"},
		{"321", "2RL"},
		{"020", "2LL"},
		{"424", "2LL"},
		{"232", "3RR"},
		{"434", "3LL"},
		{"030", "3RR"},
	} {
		for base := range 2 {
			for _, s := range []string{"LRL", "R1?", ")$L", "$)$"} {
				all, e := runs.Split(classes(s), digits(x.levels), base)
				if e != api.OK || len(all) != 3 || told(3, all[1:2]) != "-a- "+x.want {
					t.Errorf("%q, %s, base %d: %v, %v", s, x.levels, base, all, e)
				}
			}
		}
	}
}

// P9.1: the sides of each level between any other ones, up to the greatest one, and beside nothing.
func TestEachLevel(t *testing.T) {
	for a := range 126 {
		for _, b := range []int{0, 1, 2, a - 1, a, a + 1, 62, 124, 125} {
			b = min(max(b, 0), 125)
			for base := range 2 {
				for _, x := range []struct {
					text   string
					levels []int
				}{
					{"L", []int{a}},
					{"LL", []int{a, b}},
					{"LL", []int{b, a}},
					{"LLL", []int{b, a, b}},
					{"0L0.L0L0", []int{-1, a, -1, -1, b, -1, a, -1}},
				} {
					holdSplit(t, x.text, x.levels, base, read(x.text, x.levels, base))
				}
			}
		}
	}
	for base := range 2 {
		holdSplit(t, "LLL", []int{125, 124, 125}, base, "abc 125RR 124RR 125RR")
		holdSplit(t, "LLL", []int{124, 125, 124}, base, "abc 124LR 125RR 124RL")
		holdSplit(t, "LLL", []int{124, 0, 123}, base, "abc 124LL 0LR 123RR")
		holdSplit(t, "[L)", []int{125, 0, 125}, base, "aba 125RR 0RR")
	}
}

// P9.1: numbers that are no class count as ON: they are not removed, and begin and end nothing.
func TestNoClass(t *testing.T) {
	for _, n := range noClasses {
		for _, s := range []string{"?", "L?", "??", "[?)", "[?", "E?.?", "O?.", "0?0", "?$?", "[L?R)?"} {
			l := classes(s)
			for i := range s {
				if s[i] == '?' {
					l[i] = api.Class(n)
				}
			}
			for base := range 2 {
				levels, as, _ := explicit.Levels(classes(s), base)
				all, gotAs, e := runs.Prepare(l, base)
				if e != api.OK || told(len(s), all) != read(s, levels, base) || !slices.Equal(gotAs, as) {
					t.Errorf("Prepare of %v, base %d: %v, %v, %v", l, base, all, gotAs, e)
				}
				all, e = runs.Split(l, levels, base)
				if e != api.OK || told(len(s), all) != read(s, levels, base) {
					t.Errorf("Split of %v, base %d: %v, %v", l, base, all, e)
				}
				levels[strings.IndexByte(s, '?')] = -1
				if all, e := runs.Split(l, levels, base); e != api.ErrLevel || len(all) != 0 {
					t.Errorf("Split of %v, %v: %v, %v", l, levels, all, e)
				}
			}
		}
	}
}

// P9.1: the classes that Prepare makes, written out, with overrides.
func TestClasses(t *testing.T) {
	for _, x := range []struct{ text, as string }{
		{"L1?0", "L1?0"},
		{"O1L.1", "ORR.1"},
		{"o1R.1", "oLL.1"},
		{"O[L)L.", "ORLRR."},
		{"O[oR)1", "ORoLRR"},
		{"OL$L", "OR$L"},
		{"EL[o1", "EL[oL"},
	} {
		for base := range 2 {
			_, as, e := runs.Prepare(classes(x.text), base)
			if e != api.OK || !slices.Equal(as, classes(x.as)) {
				t.Errorf("%q, base %d: %v, %v, want %q", x.text, base, as, e, x.as)
			}
		}
	}
}

// holdWrong holds that Split answers ErrLevel, and nothing else.
func holdWrong(t *testing.T, l []api.Class, levels []int, base int) {
	t.Helper()
	if all, e := runs.Split(l, levels, base); e != api.ErrLevel || len(all) != 0 {
		t.Errorf("Split of %v, %v, base %d: %v, %v", l, levels, base, all, e)
	}
}

// P9.1, P1: not as many levels as scalars.
func TestNotAsMany(t *testing.T) {
	zeros := make([]int, 300)
	for n := range 6 {
		l := classes("LR1[)?"[:n])
		for m := range zeros {
			if m != n {
				holdWrong(t, l, zeros[:m], 0)
				holdWrong(t, l, zeros[:m], 1)
			}
		}
		if _, e := runs.Split(l, zeros[:n], 0); e != api.OK {
			t.Errorf("%d: %v", n, e)
		}
	}
	holdWrong(t, classes("0"), nil, 0)
	holdWrong(t, nil, []int{-1}, 0)
	holdWrong(t, classes("L0"), []int{0}, 0)
	holdWrong(t, classes("L"), []int{0, -1}, 0)
}

// P9.1, P1: numbers that are no base, whatever the classes and the levels.
func TestNoBase(t *testing.T) {
	for _, base := range noBases {
		for _, x := range []struct{ text, levels string }{{"", ""}, {"L", "0"}, {"0", "-"}, {"$R", "00"}, {"[L)0", "010-"}, {"L", ""}, {"L", "-"}} {
			holdWrong(t, classes(x.text), digits(x.levels), base)
			all, as, e := runs.Prepare(classes(x.text), base)
			if e != api.ErrLevel || len(all) != 0 || len(as) != 0 {
				t.Errorf("Prepare of %q, base %d: %v, %v, %v", x.text, base, all, as, e)
			}
		}
		holdWrong(t, nil, nil, base)
		if all, as, e := runs.Prepare(nil, base); e != api.ErrLevel || len(all) != 0 || len(as) != 0 {
			t.Errorf("Prepare of nil, base %d: %v, %v, %v", base, all, as, e)
		}
	}
}

// P9.1, P1: levels that may not be, of each class, wherever they stand.
func TestWrongLevels(t *testing.T) {
	for c := range letters {
		for _, level := range []int{math.MinInt, math.MinInt + 1, math.MinInt32, -1 << 32, -257, -256, -126, -3, -2, -1, 0, 1, 2, 61, 124, 125, 126, 127, 128, 254, 255, 256, 1 << 31, 1<<32 - 1, 1 << 32, math.MaxInt - 1, math.MaxInt} {
			isGone := strings.IndexByte(removed, letters[c]) >= 0
			right := level == -1
			if !isGone {
				right = level >= 0 && level <= 125
			}
			for at := range 4 {
				l, levels := classes("[L)?"), []int{0, 1, 0, 0}
				l[at], levels[at] = api.Class(c), level
				for base := range 2 {
					if !right {
						holdWrong(t, l, levels, base)
					} else if all, e := runs.Split(l, levels, base); e != api.OK || len(all) == 0 {
						t.Errorf("%v, %v, base %d: %v, %v", l, levels, base, all, e)
					}
				}
			}
		}
	}
}

// P9.1: all texts up to three classes, and longer ones of classes that have to do with one another, as read scalar by scalar.
func TestAllShort(t *testing.T) {
	for _, x := range []struct {
		of   string
		most int
	}{
		{letters, 3},
		{"R1E[(){.$", 5},
		{"LR([)0", 6},
		{"e.[)1", 6},
		{"[)L", 8},
	} {
		each(x.of, x.most, func(s string) {
			for base := range 2 {
				levels, _, _ := explicit.Levels(classes(s), base)
				holdPrepare(t, s, base, read(s, levels, base))
			}
		})
	}
}

// P9.1: short texts with all levels that they may have, as read scalar by scalar.
func TestAllLevels(t *testing.T) {
	for _, x := range []struct {
		of    string
		most  int
		below int
	}{
		{"[)L", 5, 3},
		{"[)", 6, 3},
		{"[)$0L", 4, 3},
		{"([{)0$E?", 4, 2},
		{"[)0", 4, 5},
	} {
		each(x.of, x.most, func(s string) {
			eachLevels(s, x.below, func(levels []int) {
				for base := range 2 {
					holdSplit(t, s, levels, base, read(s, levels, base))
				}
			})
		})
	}
}

// holdOnce holds that each scalar that is not removed is in one sequence, none that is removed in any, and that all stand in order.
func holdOnce(t *testing.T, s string, all []runs.Seq) {
	t.Helper()
	count := make([]int, len(s))
	for k, q := range all {
		if len(q.Places) == 0 || k > 0 && q.Places[0] <= all[k-1].Places[0] {
			t.Fatalf("%q: %v", s, all)
		}
		for i, place := range q.Places {
			if place < 0 || place >= len(s) || i > 0 && place <= q.Places[i-1] {
				t.Fatalf("%q: %v", s, all)
			}
			count[place]++
		}
	}
	for i := range s {
		want := 1
		if strings.IndexByte(removed, s[i]) >= 0 {
			want = 0
		}
		if count[i] != want {
			t.Fatalf("%q: %d is in %d of %v", s, i, count[i], all)
		}
	}
}

// P9.2: each scalar that is not removed is in one sequence, whatever the levels; sequences stand by their first places, and their places rise.
func TestEachOnce(t *testing.T) {
	each(letters, 3, func(s string) {
		for base := range 2 {
			all, _, _ := runs.Prepare(classes(s), base)
			holdOnce(t, s, all)
			all, _, _ = runs.Prepare(classes(strings.Repeat(s, 70)), base)
			holdOnce(t, strings.Repeat(s, 70), all)
		}
	})
	each("[){$.E0?", 4, func(s string) {
		eachLevels(s, 3, func(levels []int) {
			all, _ := runs.Split(classes(s), levels, 0)
			holdOnce(t, s, all)
		})
	})
}

// P9.1, P1: long lists, gone through at once.
func TestLong(t *testing.T) {
	const n = 200000
	for _, x := range []struct {
		first, last string // n of each
		want        int    // sequences
	}{
		{"L", "R", 1},
		{"[", ")", 64},
		{"(", ")", 63},
		{"[", "R", 64},
		{"[)", "1", 1},
		{"[R)", "(L)", 2*n + 1},
		{"1E1.", "1", 2*n + 1},
		{"E", ".", 0},
		{"E", "1", 1},
		{"0", "1", 1},
		{"$[", "1", 2},
		{")", "1", 1},
		{"[1$", "1", 2*n + 1},
	} {
		s := strings.Repeat(x.first, n) + strings.Repeat(x.last, n)
		all, as, e := runs.Prepare(classes(s), 0)
		if e != api.OK || len(as) != len(s) || len(all) != x.want {
			t.Fatalf("%q and %q: %d, %d, %v", x.first, x.last, len(all), len(as), e)
		}
		holdOnce(t, s, all)
	}
	s, levels := strings.Repeat("L", n), make([]int, n)
	for i := range levels {
		levels[i] = i % 126
	}
	all, e := runs.Split(classes(s), levels, 1)
	if e != api.OK || len(all) != n {
		t.Fatalf("rising levels: %d, %v", len(all), e)
	}
	holdOnce(t, s, all)
}

// P2: what is handed in is not written into, what lies behind its length tells nothing.
func TestGivenStays(t *testing.T) {
	const s = "L(R{A)oL)1.[E$O)R1_o{R.(1)E0?[L)0"
	l := classes(s)
	kept := slices.Clone(l)
	for base := range 2 {
		levels, _, _ := explicit.Levels(l, base)
		keptLevels := slices.Clone(levels)
		for n := range len(s) + 1 {
			want := read(s[:n], levels[:n], base)
			holdPrepared(t, s[:n], l[:n], base, want)
			if all, e := runs.Split(l[:n], levels[:n], base); e != api.OK || told(n, all) != want {
				t.Fatalf("%q: %q, %v, want %q", s[:n], told(n, all), e, want)
			}
			for _, behind := range []string{")", "R", "))$", "....", "[L"} {
				more := append(slices.Clone(l[:n]), classes(behind)...)
				moreLevels := append(slices.Clone(levels[:n]), 999, -7, 1, 0)
				if all, e := runs.Split(more[:n], moreLevels[:n], base); e != api.OK || told(n, all) != want {
					t.Fatalf("%q, behind it %q: %q, %v, want %q", s[:n], behind, told(n, all), e, want)
				}
				holdPrepared(t, s[:n], more[:n], base, want)
				if !slices.Equal(more, append(slices.Clone(kept[:n]), classes(behind)...)) || !slices.Equal(moreLevels, append(slices.Clone(keptLevels[:n]), 999, -7, 1, 0)) {
					t.Fatalf("%q: what is handed in is written into", s[:n])
				}
			}
			if !slices.Equal(l, kept) || !slices.Equal(levels, keptLevels) {
				t.Fatalf("%q: what is handed in is written into", s[:n])
			}
		}
	}
}

// holdPrepared holds the sequences that Prepare makes of a list.
func holdPrepared(t *testing.T, s string, l []api.Class, base int, want string) {
	t.Helper()
	if all, _, e := runs.Prepare(l, base); e != api.OK || told(len(s), all) != want {
		t.Fatalf("Prepare of %q: %q, %v, want %q", s, told(len(s), all), e, want)
	}
}

// P2: what is answered shares no memory with what was handed in, with another answer, or within itself.
func TestNewMemory(t *testing.T) {
	for _, s := range []string{"L", "LRE1.L", "[L)[R)L", "(L)1[R)E1.(L)1", "[1(1{1)1)1)1E1.1e1.1", "L0L0L"} {
		for base := range 2 {
			l := classes(s)
			levels, wantAs, _ := explicit.Levels(l, base)
			want := read(s, levels, base)
			kept, keptLevels := slices.Clone(l), slices.Clone(levels)
			other, otherAs, _ := runs.Prepare(l, base)
			for k := range other {
				all, e := runs.Split(l, levels, base)
				if e != api.OK || told(len(s), all) != want {
					t.Fatalf("%q, base %d: %v, %v", s, base, all, e)
				}
				places := all[k].Places
				for i := range places[:cap(places)] {
					places[:cap(places)][i] = -7
				}
				for i := range all {
					if i != k && !slices.Equal(all[i].Places, other[i].Places) {
						t.Fatalf("%q, base %d: %d and %d share memory", s, base, k, i)
					}
				}
			}
			_, as, _ := runs.Prepare(l, base)
			for i := range as[:cap(as)] {
				as[:cap(as)][i] = -7
			}
			if !slices.Equal(l, kept) || !slices.Equal(levels, keptLevels) || !slices.Equal(otherAs, wantAs) || told(len(s), other) != want {
				t.Fatalf("%q, base %d: memory is shared", s, base)
			}
		}
	}
}

// P2: lists that are changed between two calls are read afresh, and what was answered ahead stays.
func TestChanged(t *testing.T) {
	l, levels := classes("[L)L"), []int{0, 1, 0, 0}
	first, e := runs.Split(l, levels, 0)
	if e != api.OK || told(4, first) != "abaa 0LL 1RR" {
		t.Fatal(first, e)
	}
	_, as, _ := runs.Prepare(l, 0)
	l[2] = api.R
	if all, e := runs.Split(l, levels, 0); e != api.OK || told(4, all) != "abcc 0LL 1RR 0RL" {
		t.Error(all, e)
	}
	levels[1] = 0
	if all, e := runs.Split(l, levels, 0); e != api.OK || told(4, all) != "aaaa 0LL" {
		t.Error(all, e)
	}
	if all, _, e := runs.Prepare(l, 0); e != api.OK || told(4, all) != "abbb 0LL 1RR" {
		t.Error(all, e)
	}
	if told(4, first) != "abaa 0LL 1RR" || !slices.Equal(as, classes("[L)L")) {
		t.Error(first, as)
	}
}
