package breaks_test

import (
	"math"
	"regexp"
	"slices"
	"strings"
	"testing"

	"frisket/api"
	"frisket/breaks"
)

// letters has one for each kind, in the order of their numbers.
const letters = "aFI()-/=_0'$"

// noKinds is numbers that are no kind.
var noKinds = []int{math.MinInt, math.MinInt32, -256, -12, -2, -1, 12, 13, 16, 255, 256, 264, 265, 1 << 16, math.MaxInt32, math.MaxInt - 1, math.MaxInt}

// places is numbers far from a list's.
var places = []int{math.MinInt, math.MinInt + 1, -1 << 32, -7, -2, -1, 1 << 20, 1 << 32, math.MaxInt - 1, math.MaxInt}

// kinds is those of letters.
func kinds(s string) []api.Kind {
	l := make([]api.Kind, len(s))
	for i := range s {
		l[i] = api.Kind(strings.IndexByte(letters, s[i]))
	}
	return l
}

// told is what a place is, by its letter.
func told(c byte) int {
	return map[byte]int{'.': breaks.No, '|': breaks.May, '!': breaks.Must}[c]
}

// each hands out all texts of some letters, up to a length.
func each(of string, most int, do func(string)) {
	var grow func(b []byte)
	grow = func(b []byte) {
		do(string(b))
		if len(b) == most {
			return
		}
		for i := range of {
			grow(append(b, of[i]))
		}
	}
	grow(make([]byte, 0, most))
}

// bare is a Mark that goes with nothing ahead of it.
var bare = regexp.MustCompile(`(^|[_0$])'`)

// order is what the chapter says of the end of a text without Marks: what is ahead of a place, and the cluster behind it.
var order = []struct {
	is  *regexp.Regexp
	how int
}{
	{regexp.MustCompile(`\$.$`), breaks.Must},
	{regexp.MustCompile(`[$_0]$`), breaks.No},
	{regexp.MustCompile(`0_*.$`), breaks.May},
	{regexp.MustCompile(`\)$`), breaks.No},
	{regexp.MustCompile(`\(_*.$`), breaks.No},
	{regexp.MustCompile(`_.$`), breaks.May},
	{regexp.MustCompile(`=.$|=$`), breaks.No},
	{regexp.MustCompile(`[-/]$`), breaks.No},
	{regexp.MustCompile(`[aF][aF]$`), breaks.No},
	{regexp.MustCompile(`-F$`), breaks.No},
	{regexp.MustCompile(`.$`), breaks.May},
}

// read is what clusters count as, and what each place is, by patterns: Marks that go with nothing are made Letters, others are left out.
func read(s string) (string, []int) {
	s = bare.ReplaceAllString(s, "${1}a")
	counts, ahead := "", ""
	var all []int
	for i := range len(s) {
		how := breaks.No
		if s[i] != '\'' {
			ahead += s[i : i+1]
			for k := 0; len(ahead) > 1; k++ {
				if order[k].is.MatchString(ahead) {
					how = order[k].how
					break
				}
			}
		}
		counts += ahead[len(ahead)-1:]
		if i > 0 {
			all = append(all, how)
		}
	}
	if s != "" {
		all = append(all, breaks.Must)
	}
	return counts, all
}

// hold holds all that is told of a list against what each place from the 1st on is to be.
func hold(t *testing.T, s string, l []api.Kind, want []int) {
	t.Helper()
	if got := breaks.All(l); !slices.Equal(got, want) {
		t.Fatalf("All of %q: %v, want %v", s, got, want)
	}
	for i := -3; i <= len(l)+3; i++ {
		how := breaks.No
		if i > 0 && i <= len(l) {
			how = want[i-1]
		}
		if got := breaks.At(l, i); got != how {
			t.Fatalf("At of %q, %d: %d, want %d", s, i, got, how)
		}
		next := len(l)
		for k, how := range want {
			if k+1 > i && how != breaks.No {
				next = k + 1
				break
			}
		}
		if got := breaks.Next(l, i); got != next {
			t.Fatalf("Next of %q, %d: %d, want %d", s, i, got, next)
		}
	}
}

// holdCounts holds what clusters count as against letters.
func holdCounts(t *testing.T, s string, l []api.Kind, want string) {
	t.Helper()
	if got := breaks.Counts(l); !slices.Equal(got, kinds(want)) {
		t.Fatalf("Counts of %q: %v, want %q", s, got, want)
	}
}

// holdRead holds all that is told of a list against the patterns.
func holdRead(t *testing.T, s string, l []api.Kind) {
	t.Helper()
	counts, all := read(s)
	holdCounts(t, s, l, counts)
	hold(t, s, l, all)
}

// P6.1: the numbers of the kinds are those of the letters, and the places' are 0, 1 and 2.
func TestNumbers(t *testing.T) {
	want := []api.Kind{api.Letter, api.Figure, api.Ideograph, api.Opens, api.Closes, api.Hyphen, api.After, api.Glue, api.Space, api.Zero, api.Mark, api.End}
	if l := kinds(letters); !slices.Equal(l, want) {
		t.Fatal(l)
	}
	if breaks.No != 0 || breaks.May != 1 || breaks.Must != 2 {
		t.Fatal(breaks.No, breaks.May, breaks.Must)
	}
}

// P6.1: each kind behind each one, written out: . is no, | is may, ! is must.
func TestTwo(t *testing.T) {
	rows := []string{
		//aFI()-/=_0'$
		"a ..||........",
		"F ..||........",
		"I ||||........",
		"( ............",
		") ||||........",
		"- |.||........",
		"/ ||||........",
		"= ............",
		"_ ||||.|||..|.",
		"0 ||||||||..|.",
		"' ..||........", // nothing is ahead of it: a Letter
		"$ !!!!!!!!!!!!",
	}
	for i, r := range rows {
		if r[0] != letters[i] {
			t.Fatalf("row %d: %q", i, r)
		}
		for k, how := range []byte(r[2:]) {
			s := string([]byte{letters[i], letters[k]})
			hold(t, s, kinds(s), []int{told(how), breaks.Must})
		}
	}
}

// written is a list and its places, of a text with | where a line may end, and ! where it must (but at the length).
func written(text string) ([]api.Kind, []int) {
	var b []byte
	var want []int
	how := byte('.')
	for _, c := range []byte(text) {
		if c == '|' || c == '!' {
			how = c
			continue
		}
		if len(b) > 0 {
			want = append(want, told(how))
		}
		b, how = append(b, c), '.'
	}
	if len(b) > 0 {
		want = append(want, breaks.Must)
	}
	return kinds(string(b)), want
}

// P6.1: lists written out.
func TestWrittenOut(t *testing.T) {
	for _, text := range []string{
		"", "a", "F", "I", "(", ")", "-", "/", "=", "_", "0", "'", "$",
		// Ordinary ones.
		"aaa_|aa_|a", "aa_|(aa_|aa)_|a", "I|I)|I|(I", "F-FF", "a-|a", "aa=aa_|a", "I|a|I|F|I", "a/|a", "aa_|aa$!aa_|a$",
		// A Mark behind each kind.
		"a'", "F'", "I'", "('", ")'", "-'", "/'", "='", "_|'", "0|'", "''", "$!'",
		// What a Mark counts as tells of what is behind it.
		"a'a", "a'F", "a'|I", "F'a", "F'|(", "I'|I", "I'|a", "I')", "('I", "('_I", "('_)", ")'|I", ")')", "-'F", "-'|a", "-'|I", "/'|F", "='I", "I='I",
		"_|'a", "_|'|I", "0|'a", "0|'|I", "0|')", "$!'a", "$!'|I", "I_|'|I", "I_|'F", "(_'|I", "(_'a", "0_|'a",
		// Marks behind a Mark.
		"''a", "'''|I", "I''|I", "I'''|a", "(''I", "-''F", "=''I", "_|''a", "_|'''|I", "0|''|I", "$!''a", "a''a", "I_|''F", "I''_|a",
		// A Mark with nothing ahead.
		"'a", "'|I", "'F", "'|(", "')", "'-", "'_|a", "'_|'", "'$!a", "'0|a", "'=I",
		// Spaces behind a Zero.
		"0_|a", "0__|a", "0___|I", "0_|)", "0__|)", "0_|=", "0_|-", "0__|/", "0_|(", "0_|'", "0__$", "0__0|a", "00_|)", "a0_|a", "0|'_|a", "0|'_)", "0_|(_a", "0_|'_)",
		// Spaces behind one that Opens.
		"(_a", "(__a", "(___I", "(_(", "(__)", "(_-", "(_=", "(__$!a", "('_a", "(''__I", "(_'_|a", "((_I", "a_|(_I",
		// Spaces behind both.
		"(0_|I", "(0__|)", "(0|I", "0|(_I", "0|(__)", "(_0_|a", "0_|(_a", "(0|(_I", "(0|(0_|)",
		// Spaces behind neither.
		"_|a", "__|I", "a_|a", "a__|F", "I_)", "I__)", "I_|(", "I_|-", "a_|/", "I___|=", "I_|'", "=_|a", "=_|=", ")_|(", "-_|F", "/_|a", "$!_|a", "$!__)", "_)", "(I_|I", "0|I_)", "(a_|a", "0|a_|a",
		// Ends behind and ahead of each kind, and in a row.
		"a$!a", "F$!F", "I$!I", "($!(", ")$!)", "-$!-", "/$!/", "=$!=", "_$!_", "0$!0", "'$!'", "$!$!$", "$!$!$!a", "a$!$!)", "$!0|a", "$!0_|a", "($!_|a", "($!a", "0$!_)", "0$!)", "=$!a", "-$!F", "(_$!a", "0_$!)", "$!_$",
		// Glue, Hyphen, After, Figure and Letter beside one another.
		"a-", "a/", "a=", "F-", "F/", "F=", "-|a", "-F", "--", "-/", "-=", "/|a", "/|F", "/-", "//", "/=", "=a", "=F", "=-", "=/", "==",
		"a-F", "F-F", "F-|a", "--F", "--|a", "-/|F", "/-F", "a=-F", "-=F", "-='F", "/=a", "=-F", "=-|a", "F/|F", "a-F-F-|a", "I-F", "I-|I", "I/|I", "I=I", "I=-|I",
	} {
		l, want := written(text)
		hold(t, text, l, want)
	}
}

// P6.1: what clusters count as, written out.
func TestCounts(t *testing.T) {
	for s, want := range map[string]string{
		"":                       "",
		"aFI()-/=_0$":            "aFI()-/=_0$",
		"'":                      "a",
		"''":                     "aa",
		"'''I'":                  "aaaII",
		"a'F'I'(')'-'/'='_'0'$'": "aaFFII(())--//==_a0a$a",
		"I'''":                   "IIII",
		"_''":                    "_aa",
		"0'''":                   "0aaa",
		"$''I":                   "$aaI",
		"('_'":                   "((_a",
		"='$'='":                 "==$a==",
		"__'_'":                  "__a_a",
		"I'0'I'":                 "II0aII",
	} {
		holdCounts(t, s, kinds(s), want)
	}
}

// P6.1: any number of Marks counts as each kind, and is not parted from it; or as Letters.
func TestMarks(t *testing.T) {
	for i := range letters {
		for n := 1; n <= 9; n++ {
			as := letters[i : i+1]
			how := breaks.No
			switch as {
			case "_", "0":
				as, how = "a", breaks.May
			case "$":
				as, how = "a", breaks.Must
			case "'":
				as = "a"
			}
			first := letters[i : i+1]
			if first == "'" {
				first = "a"
			}
			s := letters[i:i+1] + strings.Repeat("'", n)
			holdCounts(t, s, kinds(s), first+strings.Repeat(as, n))
			want := make([]int, n+1)
			want[0], want[n] = how, breaks.Must
			hold(t, s, kinds(s), want)
		}
	}
}

// P6.1: any number of Spaces, behind a Zero, behind one that Opens, and behind each other kind, ahead of each kind.
func TestSpaces(t *testing.T) {
	for i := range letters {
		for k := range letters {
			for n := 1; n <= 9; n++ {
				last := breaks.May
				switch a, b := letters[i], letters[k]; {
				case b == '$' || b == '_' || b == '0':
					last = breaks.No
				case a == '0':
				case b == ')' || a == '(':
					last = breaks.No
				}
				s := letters[i:i+1] + strings.Repeat("_", n) + letters[k:k+1]
				want := make([]int, n+2)
				want[n], want[n+1] = last, breaks.Must
				if letters[i] == '$' {
					want[0] = breaks.Must
				}
				hold(t, s, kinds(s), want)
			}
		}
	}
}

// P6.1: all lists up to four kinds, and longer ones of kinds that have to do with one another, as read by the patterns.
func TestAllShort(t *testing.T) {
	for _, x := range []struct {
		of   string
		most int
	}{
		{letters, 4},
		{"_0()a", 6},
		{"_'0($", 6},
		{"=-/aFI", 5},
		{"I'_", 8},
		{"='-F", 6},
	} {
		each(x.of, x.most, func(s string) { holdRead(t, s, kinds(s)) })
	}
}

// P6.1: numbers that are no kind count as Letters, wherever they stand.
func TestNoKind(t *testing.T) {
	for _, n := range noKinds {
		if c := breaks.Counts([]api.Kind{api.Kind(n), api.Mark, api.Kind(n)}); !slices.Equal(c, []api.Kind{api.Letter, api.Letter, api.Letter}) {
			t.Fatalf("Counts of %d: %v", n, c)
		}
		each("aFI(-_'$", 4, func(s string) {
			l := kinds(s)
			for i, k := range l {
				if k == api.Letter {
					l[i] = api.Kind(n)
				}
			}
			holdRead(t, s, l)
		})
	}
	l := make([]api.Kind, len(noKinds))
	for i, n := range noKinds {
		l[i] = api.Kind(n)
	}
	holdRead(t, strings.Repeat("a", len(l)), l)
}

// P6.1, P1: places that are far from the list's.
func TestFar(t *testing.T) {
	for _, s := range []string{"a", "_", "'", "$", "II", "a_a", "(_''_)", letters} {
		l := kinds(s)
		for _, i := range places {
			if how := breaks.At(l, i); how != breaks.No {
				t.Errorf("At of %q, %d: %d", s, i, how)
			}
			want := len(l)
			if i < 0 {
				want = breaks.Next(l, 0)
			}
			if next := breaks.Next(l, i); next != want {
				t.Errorf("Next of %q, %d: %d, want %d", s, i, next, want)
			}
		}
	}
	if n := breaks.Next(kinds("a_a"), math.MinInt); n != 2 {
		t.Errorf("Next from far below 0: %d", n)
	}
}

// P6.1, P1: no cluster.
func TestNone(t *testing.T) {
	for _, l := range [][]api.Kind{nil, {}, kinds(letters)[:0], kinds(letters)[3:3]} {
		if c := breaks.Counts(l); len(c) != 0 {
			t.Errorf("Counts: %v", c)
		}
		if a := breaks.All(l); len(a) != 0 {
			t.Errorf("All: %v", a)
		}
		for _, i := range append([]int{0, 1, 2, 3}, places...) {
			if how, next := breaks.At(l, i), breaks.Next(l, i); how != breaks.No || next != 0 {
				t.Errorf("At and Next of %d: %d, %d", i, how, next)
			}
		}
	}
}

// P6.1: a place is told by the first of the rules that speaks: two that say otherwise, each ahead of the other.
func TestFirstSpeaks(t *testing.T) {
	for _, x := range []struct {
		s   string
		i   int
		how int
	}{
		{"$$", 1, breaks.Must},   // behind an End, though ahead of one
		{"$)", 1, breaks.Must},   // .. though ahead of one that Closes
		{"$_", 1, breaks.Must},   // .. though ahead of a Space
		{"$=", 1, breaks.Must},   // .. though ahead of a Glue
		{"$'", 1, breaks.Must},   // .. though ahead of a Mark
		{"0$", 1, breaks.No},     // ahead of an End, though behind a Zero
		{"00", 1, breaks.No},     // ahead of a Zero, though behind one
		{"0_0", 2, breaks.No},    // .. and behind its Spaces
		{"0)", 1, breaks.May},    // behind a Zero, though ahead of one that Closes
		{"0_)", 2, breaks.May},   // .. and behind its Spaces
		{"0=", 1, breaks.May},    // .. though ahead of a Glue
		{"0-", 1, breaks.May},    // .. though ahead of a Hyphen
		{"(_)", 2, breaks.No},    // behind Spaces, one that Opens ahead of them
		{"(_I", 2, breaks.No},    // .. though behind a Space
		{"I_)", 2, breaks.No},    // ahead of one that Closes, though behind a Space
		{"I_=", 2, breaks.May},   // behind a Space, though ahead of a Glue
		{"=_I", 2, breaks.May},   // .. though a Glue is ahead of that
		{"I_-", 2, breaks.May},   // .. though ahead of a Hyphen
		{"a_a", 2, breaks.May},   // .. though Letters are about it
		{"=I", 1, breaks.No},     // behind a Glue
		{"='I", 2, breaks.No},    // .. and a Mark that counts as one
		{"-'F", 2, breaks.No},    // behind a Mark that counts as a Hyphen, ahead of a Figure
		{"('_I", 3, breaks.No},   // behind Spaces, a Mark that counts as one that Opens ahead of them
		{"(_'_I", 4, breaks.May}, // .. but no such one is behind a Space
	} {
		if how := breaks.At(kinds(x.s), x.i); how != x.how {
			t.Errorf("At of %q, %d: %d, want %d", x.s, x.i, how, x.how)
		}
	}
}

// P6.1, P1: long lists, with long rows of Spaces and of Marks, gone through at once.
func TestLong(t *testing.T) {
	const n = 200000
	for _, x := range []struct {
		first, row, last string
		how              int // ahead of the last one
		begin            int // ahead of the row
	}{
		{"a", "_", "a", breaks.May, breaks.No},
		{"(", "_", "a", breaks.No, breaks.No},
		{"0", "_", ")", breaks.May, breaks.No},
		{"I", "_", ")", breaks.No, breaks.No},
		{"I", "'", "I", breaks.May, breaks.No},
		{"=", "'", "I", breaks.No, breaks.No},
		{"_", "'", "a", breaks.No, breaks.May},
		{"$", "'", "I", breaks.May, breaks.Must},
	} {
		l := kinds(x.first + strings.Repeat(x.row, n) + x.last)
		want := make([]int, n+2)
		want[0], want[n], want[n+1] = x.begin, x.how, breaks.Must
		if !slices.Equal(breaks.All(l), want) {
			t.Errorf("All of %q, a row of %q, and %q", x.first, x.row, x.last)
		}
		next := n + 1
		if x.how == breaks.No {
			next = n + 2
		}
		if breaks.At(l, 1) != x.begin || breaks.At(l, n/2) != breaks.No || breaks.At(l, n+1) != x.how || breaks.At(l, n+2) != breaks.Must || breaks.Next(l, 1) != next {
			t.Errorf("At and Next of %q, a row of %q, and %q", x.first, x.row, x.last)
		}
	}
}

// P6.1, P1: each place of a long list, one by one.
func TestLongPlaces(t *testing.T) {
	const part = "aa_|(I'|I)_0|-F$!"
	l, want := written(strings.Repeat(part, 20000))
	if all := breaks.All(l); !slices.Equal(all, want) {
		t.Fatal("All")
	}
	next := 0
	for i, how := range want {
		if got := breaks.At(l, i+1); got != how {
			t.Fatalf("At of %d: %d, want %d", i+1, got, how)
		}
		if how != breaks.No {
			if got := breaks.Next(l, next); got != i+1 {
				t.Fatalf("Next of %d: %d, want %d", next, got, i+1)
			}
			next = i + 1
		}
	}
}

// P6.2: what stands behind a place at which a line must end is as if nothing stood ahead of it.
func TestBehindMust(t *testing.T) {
	var heads []string
	each(letters, 2, func(s string) { heads = append(heads, s+"$") })
	each("0_('", 4, func(s string) { heads = append(heads, s+"$", "$"+s+"$") })
	for _, x := range []struct {
		of   string
		most int
	}{
		{letters, 2},
		{"_'0()", 3},
	} {
		each(x.of, x.most, func(s string) {
			tail := kinds(s)
			counts, all := breaks.Counts(tail), breaks.All(tail)
			for _, h := range heads {
				l := append(kinds(h), tail...)
				at := len(h)
				if breaks.At(l, at) != breaks.Must {
					t.Fatalf("%q behind %q: no line must end", s, h)
				}
				if got := breaks.Counts(l)[at:]; !slices.Equal(got, counts) {
					t.Fatalf("Counts of %q behind %q: %v, want %v", s, h, got, counts)
				}
				if got := breaks.All(l)[at:]; !slices.Equal(got, all) {
					t.Fatalf("All of %q behind %q: %v, want %v", s, h, got, all)
				}
				for i := range tail {
					if got, want := breaks.At(l, at+i+1), breaks.At(tail, i+1); got != want {
						t.Fatalf("At of %q behind %q, %d: %d, want %d", s, h, i+1, got, want)
					}
					if got, want := breaks.Next(l, at+i)-at, breaks.Next(tail, i); got != want {
						t.Fatalf("Next of %q behind %q, %d: %d, want %d", s, h, i, got, want)
					}
				}
			}
		})
	}
}

// P6.2: each place of a list at which a line must end parts it so, wherever it is.
func TestEachMust(t *testing.T) {
	each("$_'0(a", 5, func(s string) {
		l := kinds(s)
		counts, all := breaks.Counts(l), breaks.All(l)
		for i, how := range all {
			if how != breaks.Must {
				continue
			}
			tail := l[i+1:]
			if got := breaks.Counts(tail); !slices.Equal(got, counts[i+1:]) {
				t.Fatalf("Counts of %q behind %d: %v", s, i+1, got)
			}
			if got := breaks.All(tail); !slices.Equal(got, all[i+1:]) {
				t.Fatalf("All of %q behind %d: %v", s, i+1, got)
			}
		}
	})
}

// P2: what is handed in is not written into, what lies behind its length tells nothing, and what is answered shares no memory with it, or with another answer.
func TestGivenStays(t *testing.T) {
	const s = "a_|(I'|I)_0|'-F$!'_|aF"
	all, want := written(s)
	hold(t, s, all, want)
	kept := slices.Clone(all)
	for n := range len(all) + 1 {
		l := all[:n]
		text := ""
		for _, k := range l {
			text += letters[k : k+1]
		}
		counts, places := breaks.Counts(l), breaks.All(l)
		for i := range counts[:cap(counts)] {
			counts[:cap(counts)][i] = api.Ideograph
		}
		for i := range places[:cap(places)] {
			places[:cap(places)][i] = -7
		}
		if !slices.Equal(all, kept) {
			t.Fatalf("%q: the list is written into", text)
		}
		again := breaks.Counts(l)
		breaks.All(l)
		holdRead(t, text, l)
		if counted, _ := read(text); !slices.Equal(again, kinds(counted)) || !slices.Equal(all, kept) {
			t.Fatalf("%q: what is told hangs on what was told", text)
		}
		for _, behind := range [][]api.Kind{kinds("'"), kinds("_"), kinds("$"), kinds(")))")} {
			holdRead(t, text, append(slices.Clone(l), behind...)[:n])
		}
	}
}

// P2: the list that is changed between two calls is read afresh.
func TestChanged(t *testing.T) {
	l := kinds("(_I")
	hold(t, "(_I", l, []int{breaks.No, breaks.No, breaks.Must})
	l[0] = api.Zero
	hold(t, "0_I", l, []int{breaks.No, breaks.May, breaks.Must})
	l[1] = api.End
	hold(t, "0$I", l, []int{breaks.No, breaks.Must, breaks.Must})
}
