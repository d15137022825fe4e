package cluster_test

import (
	"math"
	"regexp"
	"slices"
	"testing"

	"frisket/api"
	"frisket/cluster"
)

// letters has one for each join, in the order of their numbers.
const letters = ".rncEZRPSLVTABX"

// whole is a cluster, written out as one pattern of letters: that of UAX 29's table 1c.
var whole = longest(`^(?:rn|[rnc]|P*(?:L*(?:V+|AV*|B)T*|L+|T+|RR|X(?:E*ZX)*|[^rnc])[EZS]*)`)

// longest is a pattern that takes as much as it can.
func longest(s string) *regexp.Regexp {
	p := regexp.MustCompile(s)
	p.Longest()
	return p
}

// joins is those of letters.
func joins(s string) []api.Join {
	l := make([]api.Join, len(s))
	for i := range s {
		l[i] = api.Join(slices.Index([]byte(letters), s[i]))
	}
	return l
}

// startsOf is where clusters begin, by cutting one behind the other off the letters.
func startsOf(s string) []int {
	var starts []int
	for at := 0; at < len(s); {
		starts = append(starts, at)
		at += len(whole.FindString(s[at:]))
	}
	return starts
}

// each hands out all texts of some letters, up to a length.
func each(of string, most int, do func(string)) {
	var grow func(b []byte)
	grow = func(b []byte) {
		do(string(b))
		if len(b) == most {
			return
		}
		for i := range of {
			grow(append(b, of[i]))
		}
	}
	grow(make([]byte, 0, most))
}

// hold holds a list's clusters, and all its breaks, against where they are to begin.
func hold(t *testing.T, s string, l []api.Join, want []int) {
	t.Helper()
	if got := cluster.Starts(l); !slices.Equal(got, want) {
		t.Fatalf("Starts of %q: %v, want %v", s, got, want)
	}
	next := 0
	for i := -2; i <= len(l)+2; i++ {
		is := i == len(l) && len(l) > 0
		if next < len(want) && want[next] == i {
			is = true
			next++
		}
		if cluster.Break(l, i) != is {
			t.Fatalf("Break of %q, %d: %v", s, i, !is)
		}
	}
}

// P5.1: the numbers of the joins are those of the letters.
func TestLetters(t *testing.T) {
	want := []api.Join{api.Any, api.CR, api.LF, api.Control, api.Extend, api.ZWJ, api.Regional, api.Prepend, api.Spacing, api.LeadL, api.VowelV, api.TailT, api.PairLV, api.TripleLVT, api.Pict}
	if l := joins(letters); !slices.Equal(l, want) {
		t.Fatal(l)
	}
}

// P5.1: each join behind each one, written out: x is no break.
func TestTwo(t *testing.T) {
	rows := []string{
		//  .rncEZRPSLVTABX
		". ____xx__x______",
		"r __x____________",
		"n _______________",
		"c _______________",
		"E ____xx__x______",
		"Z ____xx__x______", // no Pict is ahead of the ZWJ
		"R ____xxx_x______",
		"P x___xxxxxxxxxxx",
		"S ____xx__x______",
		"L ____xx__xxx_xx_",
		"V ____xx__x_xx___",
		"T ____xx__x__x___",
		"A ____xx__x_xx___",
		"B ____xx__x__x___",
		"X ____xx__x______",
	}
	for i, r := range rows {
		if r[0] != letters[i] {
			t.Fatalf("row %d: %q", i, r)
		}
		for k, how := range []byte(r[2:]) {
			want := []int{0, 1}
			if how == 'x' {
				want = want[:1]
			}
			s := string([]byte{letters[i], letters[k]})
			hold(t, s, joins(s), want)
		}
	}
}

// P5.1: lists written out, with their clusters parted by blanks.
func TestWrittenOut(t *testing.T) {
	for _, clusters := range [][]string{
		nil,
		{"."}, {"r"}, {"n"}, {"c"}, {"E"}, {"Z"}, {"R"}, {"P"}, {"S"}, {"L"}, {"V"}, {"T"}, {"A"}, {"B"}, {"X"},
		// CR and LF, together and apart.
		{"rn", "n"}, {"r", "rn"}, {"n", "r"}, {"n", "rn", "r"}, {"r", ".", "n"}, {"r", "E", "n"}, {"rn", "rn"}, {"r", "c", "n"}, {".", "rn", "."},
		// Nothing goes with what is alone.
		{"r", "E"}, {"n", "ZE"}, {"c", "S"}, {"rn", "E"}, {"P", "c"}, {"PP", "r"}, {".E", "n"}, {"c", "c"}, {"X", "c", "Z", "X"},
		// Hangul.
		{"LLVVTT"}, {"LAVT"}, {"LBT"}, {"AVVT"}, {"LV", "LV"}, {"LVT", "V"}, {"L", "T"}, {"T", "L"}, {"B", "V"}, {"A", "A"}, {"VT", "A"}, {"BT", "B"}, {"LE", "V"}, {"LVTE", "T"}, {"A", "B"}, {"V", "L"}, {"V", "B"},
		// Those that trail, and those that lead.
		{".EZS"}, {"ESZ", "."}, {"PP.E"}, {"PE", "."}, {"P", "rn"}, {".", "P."}, {"PLVT"}, {"PPP"}, {"ES", "P"}, {"RS", "R"}, {"SS"},
		// Picts, with any number of Extends, and with none.
		{"XZX"}, {"XEZX"}, {"XEEEEEZX"}, {"XZXZX"}, {"XEZXEEZXE"}, {"XEZZ", "X"}, {"XZEZ", "X"}, {"XEZXZEZ", "X"}, {"XSZ", "X"}, {"XE", "X"}, {"X", "X"}, {"PXZX"}, {"XZ", "PX"}, {"XZ", "."}, {"XZE", "X"},
		// A ZWJ without a Pict ahead.
		{".Z", "X"}, {"Z", "X"}, {"EZ", "X"}, {"EEZ", "X"}, {".EZ", "X"}, {"PZ", "X"}, {"RZ", "X"}, {"X", ".EZ", "X"}, {"X", "c", "EZ", "X"}, {"PEZ", "X"},
		// One to six Regionals in a row.
		{"RR"}, {"RR", "R"}, {"RR", "RR"}, {"RR", "RR", "R"}, {"RR", "RR", "RR"},
		// Regionals parted by others.
		{"R", ".", "RR", "R"}, {"RE", "R"}, {"RE", "RR"}, {"RRE", "RR"}, {"RRZ", "R"}, {"RR", "RE", "RR", "R"}, {"R", "c", "RR"}, {"R", "PRR", "R"}, {"RR", "R", "PR"}, {"PRR", "RR"}, {"RS", "RR", "X", "RR"},
	} {
		s := ""
		var want []int
		for _, c := range clusters {
			want = append(want, len(s))
			s += c
		}
		hold(t, s, joins(s), want)
	}
}

// P5.1: all lists up to four joins, and longer ones of joins that have to do with one another, as cut by the pattern.
func TestAllShort(t *testing.T) {
	for _, x := range []struct {
		of   string
		most int
	}{
		{letters, 4},
		{"XEZ.", 8},
		{"XEZRS", 6},
		{"RE.", 9},
		{"RPEc", 7},
		{"LVTAB", 6},
		{"LVTABEP", 5},
		{"rncEP.", 6},
	} {
		each(x.of, x.most, func(s string) { hold(t, s, joins(s), startsOf(s)) })
	}
}

// P5.1: there is a break at 0, and at the length, if there is a scalar; elsewhere none.
func TestEnds(t *testing.T) {
	for _, l := range [][]api.Join{nil, {}, joins(letters)[:0]} {
		if s := cluster.Starts(l); len(s) != 0 {
			t.Errorf("Starts of nothing: %v", s)
		}
		for _, i := range []int{math.MinInt, -1, 0, 1, math.MaxInt} {
			if cluster.Break(l, i) {
				t.Errorf("Break of nothing, %d", i)
			}
		}
	}
	for _, s := range []string{".", "E", "P", "rn", "PE", "RR", letters} {
		l := joins(s)
		for i, want := range map[int]bool{math.MinInt: false, -1: false, 0: true, len(l): true, len(l) + 1: false, math.MaxInt: false} {
			if cluster.Break(l, i) != want {
				t.Errorf("Break of %q, %d: %v", s, i, !want)
			}
		}
	}
}

// P5.1: numbers that are no join count as Any, wherever they stand.
func TestNoJoin(t *testing.T) {
	for _, n := range []int{math.MinInt, -256, -15, -2, -1, 15, 16, 17, 255, 256, 257, 262, 1 << 16, math.MaxInt32, math.MaxInt - 1, math.MaxInt} {
		each(".rEZRPLX", 4, func(s string) {
			l := joins(s)
			for i, j := range l {
				if j == api.Any {
					l[i] = api.Join(n)
				}
			}
			hold(t, s, l, startsOf(s))
		})
	}
}

// P5.1, P1: long lists, each of one cluster after another.
func TestLong(t *testing.T) {
	const n = 400000
	for _, one := range []string{"RR", "XEEZXZX", "PPRR", "LVT", "rn", "REEEE", "."} {
		var l []api.Join
		var want []int
		for len(l) < n {
			want = append(want, len(l))
			l = append(l, joins(one)...)
		}
		if got := cluster.Starts(l); !slices.Equal(got, want) {
			t.Errorf("Starts of %q, over and over: %d, want %d", one, len(got), len(want))
		}
		for k := 1; k <= 12; k++ {
			i := len(l) - k
			if want := i%len(one) == 0; cluster.Break(l, i) != want {
				t.Errorf("Break of %q, over and over, %d from the end: %v", one, k, !want)
			}
		}
	}
}

// P5.1, P1: one long cluster, with a Pict behind all its Extends, and without.
func TestLongExtends(t *testing.T) {
	const n = 400000
	for _, ahead := range []api.Join{api.Pict, api.Any, api.Prepend} {
		l := []api.Join{ahead}
		for len(l) < n {
			l = append(l, api.Extend)
		}
		l = append(l, api.ZWJ, api.Pict)
		want := []int{0}
		if ahead != api.Pict {
			want = append(want, len(l)-1)
		}
		if got := cluster.Starts(l); !slices.Equal(got, want) {
			t.Errorf("Starts behind %d: %v, want %v", ahead, got, want)
		}
		if cluster.Break(l, len(l)-1) != (ahead != api.Pict) {
			t.Errorf("Break behind %d", ahead)
		}
	}
}

// P5.1: which cluster has a scalar, written out.
func TestOf(t *testing.T) {
	for _, x := range []struct {
		starts  []int
		i, want int
	}{
		{nil, 0, -1}, {nil, -1, -1}, {nil, 5, -1}, {[]int{}, 0, -1}, {[]int{}, math.MaxInt, -1}, {nil, math.MinInt, -1},
		{[]int{0}, 0, 0}, {[]int{0}, -1, -1}, {[]int{0}, 1, 0}, {[]int{0}, math.MaxInt, 0}, {[]int{0}, math.MinInt, -1},
		{[]int{0, 1}, 0, 0}, {[]int{0, 1}, 1, 1}, {[]int{0, 1}, 2, 1},
		{[]int{0, 2, 5}, -7, -1}, {[]int{0, 2, 5}, 0, 0}, {[]int{0, 2, 5}, 1, 0}, {[]int{0, 2, 5}, 2, 1}, {[]int{0, 2, 5}, 3, 1}, {[]int{0, 2, 5}, 4, 1}, {[]int{0, 2, 5}, 5, 2}, {[]int{0, 2, 5}, 6, 2}, {[]int{0, 2, 5}, math.MaxInt32, 2},
		{[]int{0, math.MaxInt}, math.MaxInt, 1}, {[]int{0, math.MaxInt}, math.MaxInt - 1, 0},
	} {
		if got := cluster.Of(x.starts, x.i); got != x.want {
			t.Errorf("Of %v, %d: %d, want %d", x.starts, x.i, got, x.want)
		}
	}
}

// P5.1: which cluster has a scalar, of all starts below 9, held against counting them.
func TestOfAll(t *testing.T) {
	for set := range 1 << 8 {
		starts := []int{0}
		for k := range 8 {
			if set>>k&1 == 1 {
				starts = append(starts, k+1)
			}
		}
		for i := -3; i < 13; i++ {
			want := -1
			for _, s := range starts {
				if s <= i {
					want++
				}
			}
			if got := cluster.Of(starts, i); got != want {
				t.Fatalf("Of %v, %d: %d, want %d", starts, i, got, want)
			}
		}
	}
}

// P5.1: each scalar is in the cluster that its list's starts tell.
func TestOfStarts(t *testing.T) {
	l := joins("rnPX.EXEZXRRRELVTc.")
	starts := cluster.Starts(l)
	n := -1
	for i := range l {
		if cluster.Break(l, i) {
			n++
		}
		if got := cluster.Of(starts, i); got != n {
			t.Errorf("Of %d: %d, want %d", i, got, n)
		}
	}
}

// P1: starts that do not rise, or do not begin with 0, are answered somehow, and a scalar below 0 is in no cluster of theirs either.
func TestOfWrongStarts(t *testing.T) {
	for _, starts := range [][]int{{5}, {-5, 0}, {3, 2, 1}, {0, 0, 0}, {math.MaxInt, math.MinInt}, {math.MinInt}} {
		for _, i := range []int{math.MinInt, -6, -1, 0, 1, 4, math.MaxInt} {
			n := cluster.Of(starts, i)
			if n < -1 || n >= len(starts) || i < 0 && n != -1 {
				t.Errorf("Of %v, %d: %d", starts, i, n)
			}
		}
	}
}

// P5.2: a list that is cut at a break has the clusters of its two parts.
func TestCutInTwo(t *testing.T) {
	cut := func(s string) {
		l := joins(s)
		all := cluster.Starts(l)
		for c := range len(l) + 1 {
			if !cluster.Break(l, c) {
				continue
			}
			both := cluster.Starts(l[:c])
			for _, at := range cluster.Starts(l[c:]) {
				both = append(both, c+at)
			}
			if !slices.Equal(both, all) {
				t.Fatalf("%q, cut at %d: %v, want %v", s, c, both, all)
			}
			for i := range l {
				part, at := l[:c], i
				if i >= c {
					part, at = l[c:], i-c
				}
				if cluster.Break(part, at) != cluster.Break(l, i) {
					t.Fatalf("%q, cut at %d: Break at %d", s, c, i)
				}
			}
		}
	}
	each(letters, 4, cut)
	each("XEZR", 6, cut)
	each("R.E", 8, cut)
	each("LVTAB", 5, cut)
}

// P2: what is handed in is not written into, what lies behind its length tells nothing, and no two answers share memory.
func TestGivenStays(t *testing.T) {
	const s = "rnPX.EXEZXRRRELVTc."
	all := append(joins(s), joins("nEZXRVT")...)
	kept := slices.Clone(all)
	for n := range len(s) + 1 {
		l := all[:n]
		want := startsOf(s[:n])
		first := cluster.Starts(l)
		for i := range first[:cap(first)] {
			first[:cap(first)][i] = -7
		}
		hold(t, s[:n], l, want)
		if !slices.Equal(all, kept) {
			t.Fatalf("%q: the list is written into", s[:n])
		}
	}
	starts := []int{0, 2, 5, 3, 4}
	for _, i := range []int{-1, 0, 4, 9} {
		cluster.Of(starts[:3], i)
	}
	if cluster.Of(starts[:3], 9) != 2 || !slices.Equal(starts, []int{0, 2, 5, 3, 4}) {
		t.Fatalf("the starts are written into, or read behind their length: %v", starts)
	}
}
