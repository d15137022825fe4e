package ranges_test

import (
	"fmt"
	"math"
	"slices"
	"strings"
	"testing"

	"frisket/api"
	"frisket/ranges"
)

const (
	sixteen   = "abcXYZ_019_hijkl"
	seventeen = sixteen + "m"
)

// edges are the least and the greatest of all numbers, the ends of what may be a scalar, and numbers beside them.
var edges = []int{math.MinInt, math.MinInt32, -1 << 32, -2, -1, 0, 0xD7FF, 0xD800, 0xDFFF, 0xE000, 0xFFFF, 0x10000, 0x10FFFE, 0x10FFFF, 0x110000, math.MaxInt32, 1 << 32, 1<<32 + 0x41, math.MaxInt}

// table is a right one.
func table(t *testing.T, l []api.Entry, names []string) *ranges.Table {
	t.Helper()
	x, e := ranges.New(l, names)
	if x == nil || e != api.OK {
		t.Fatalf("New of %v, %q: %v", l, names, e)
	}
	return x
}

// noTable asks for one that may not be.
func noTable(t *testing.T, what string, l []api.Entry, names []string) {
	t.Helper()
	if x, e := ranges.New(l, names); x != nil || e != api.ErrTable {
		t.Errorf("%s: New of %v, %q: %v, %v", what, l, names, x, e)
	}
}

// pairs are right ones.
func pairs(t *testing.T, l []api.Entry) *ranges.Pairs {
	t.Helper()
	p, e := ranges.Pair(l)
	if p == nil || e != api.OK {
		t.Fatalf("Pair of %v: %v", l, e)
	}
	return p
}

// noPairs asks for those that may not be.
func noPairs(t *testing.T, what string, l []api.Entry) {
	t.Helper()
	if p, e := ranges.Pair(l); p != nil || e != api.ErrTable {
		t.Errorf("%s: Pair of %v: %v, %v", what, l, p, e)
	}
}

// one is an entry without Extra.
func one(from, to int, value string) api.Entry {
	return api.Entry{From: from, To: to, Value: value}
}

// numberOf says a number's by going through all entries and all names.
func numberOf(l []api.Entry, names []string, c int) int {
	for _, e := range l {
		if e.From <= c && c <= e.To {
			return slices.Index(names, e.Value)
		}
	}
	return 0
}

// about are the numbers at entries' ends, and beside them, and the edges.
func about(l []api.Entry) []int {
	at := slices.Clone(edges)
	for _, e := range l {
		at = append(at, e.From-1, e.From, e.From+1, (e.From+e.To)/2, e.To-1, e.To, e.To+1)
	}
	return at
}

// told is the shortest list, made by going through numbers one by one.
func told(x *ranges.Table, names []string, low, high int) []api.Entry {
	var l []api.Entry
	ahead := 0
	for c := low; c <= high; c++ {
		n := x.At(c)
		if n != 0 && n == ahead {
			l[len(l)-1].To = c
		} else if n != 0 {
			l = append(l, one(c, c, names[n]))
		}
		ahead = n
	}
	return l
}

// sameNumbers holds a table's numbers against its entries.
func sameNumbers(t *testing.T, x *ranges.Table, l []api.Entry, names []string) {
	t.Helper()
	for _, c := range about(l) {
		if n, want := x.At(c), numberOf(l, names, c); n != want {
			t.Errorf("At(%x) of %v, %q: %d, want %d", c, l, names, n, want)
		}
	}
}

// again makes a table of what another one's Ranges tells, and holds both against each other.
func again(t *testing.T, x *ranges.Table, l []api.Entry, names []string) {
	t.Helper()
	first := x.Ranges()
	y := table(t, first, names)
	if second := y.Ranges(); !slices.Equal(first, second) {
		t.Errorf("Ranges of %v: %v", first, second)
	}
	for _, c := range about(slices.Concat(l, first)) {
		if x.At(c) != y.At(c) {
			t.Errorf("At(%x) of %v: %d; of %v: %d", c, l, x.At(c), first, y.At(c))
		}
	}
}

// P3.1: numbers below, at, within and above entries, and what Ranges tells.
func TestTable(t *testing.T) {
	names := []string{"L", "R", "AL", "EN"}
	l := []api.Entry{one(5, 9, "R"), one(10, 12, "R"), one(13, 13, "AL"), one(20, 20, "L"), {From: 30, To: 39, Value: "EN", Extra: "x"}, {From: 40, To: 41, Value: "EN", Extra: "y"}, one(0x10FFFF, 0x10FFFF, "R")}
	x := table(t, l, names)
	for c, want := range map[int]int{4: 0, 5: 1, 9: 1, 10: 1, 12: 1, 13: 2, 14: 0, 19: 0, 20: 0, 21: 0, 29: 0, 30: 3, 35: 3, 41: 3, 42: 0, 0x10FFFE: 0, 0x10FFFF: 1, 0x110000: 0, -1: 0, math.MaxInt: 0, math.MinInt: 0} {
		if n := x.At(c); n != want {
			t.Errorf("At(%x): %d, want %d", c, n, want)
		}
	}
	want := []api.Entry{one(5, 12, "R"), one(13, 13, "AL"), one(30, 41, "EN"), one(0x10FFFF, 0x10FFFF, "R")}
	if got := x.Ranges(); !slices.Equal(got, want) {
		t.Errorf("Ranges: %v", got)
	}
	again(t, x, l, names)
}

// P3.1: entries side by side, apart, and those whose number is 0, between others too.
func TestRangesAreTheShortest(t *testing.T) {
	names := []string{"L", "R", "EN"}
	for _, k := range []struct{ l, want []api.Entry }{
		{nil, nil},
		{[]api.Entry{}, nil},
		{[]api.Entry{one(0, 0, "R")}, []api.Entry{one(0, 0, "R")}},
		{[]api.Entry{one(0, 0x10FFFF, "L")}, nil},
		{[]api.Entry{one(0, 0x10FFFF, "EN")}, []api.Entry{one(0, 0x10FFFF, "EN")}},
		{[]api.Entry{one(1, 2, "R"), one(3, 4, "R"), one(5, 5, "R")}, []api.Entry{one(1, 5, "R")}},
		{[]api.Entry{one(1, 2, "R"), one(4, 4, "R")}, []api.Entry{one(1, 2, "R"), one(4, 4, "R")}},
		{[]api.Entry{one(1, 2, "R"), one(3, 4, "EN")}, []api.Entry{one(1, 2, "R"), one(3, 4, "EN")}},
		{[]api.Entry{one(1, 2, "R"), one(3, 3, "L"), one(4, 4, "R")}, []api.Entry{one(1, 2, "R"), one(4, 4, "R")}},
		{[]api.Entry{one(1, 2, "L"), one(3, 3, "R"), one(4, 4, "L")}, []api.Entry{one(3, 3, "R")}},
		{[]api.Entry{one(1, 1, "R"), one(2, 2, "EN"), one(3, 3, "R"), one(4, 4, "R")}, []api.Entry{one(1, 1, "R"), one(2, 2, "EN"), one(3, 4, "R")}},
		{[]api.Entry{{From: 1, To: 1, Value: "R", Extra: "a"}, {From: 2, To: 2, Value: "R", Extra: "b"}, one(3, 3, "R")}, []api.Entry{one(1, 3, "R")}},
		{[]api.Entry{{From: 1, To: 1, Value: "R", Extra: sixteen}}, []api.Entry{one(1, 1, "R")}},
		{[]api.Entry{one(0xD7FF, 0xD800, "R"), one(0xD801, 0xE000, "R")}, []api.Entry{one(0xD7FF, 0xE000, "R")}},
		{[]api.Entry{one(0x10FFFE, 0x10FFFE, "R"), one(0x10FFFF, 0x10FFFF, "R")}, []api.Entry{one(0x10FFFE, 0x10FFFF, "R")}},
	} {
		x := table(t, k.l, names)
		if got := x.Ranges(); !slices.Equal(got, k.want) {
			t.Errorf("Ranges of %v: %v, want %v", k.l, got, k.want)
		}
		sameNumbers(t, x, k.l, names)
		again(t, x, k.l, names)
	}
}

// P3.1: a table without entries, with and without names; names without entries are asked no less; entries without names are none.
func TestNothing(t *testing.T) {
	for _, names := range [][]string{nil, {}, {"L"}, {"L", "R"}} {
		for _, l := range [][]api.Entry{nil, {}} {
			x := table(t, l, names)
			sameNumbers(t, x, l, names)
			if got := x.Ranges(); len(got) != 0 {
				t.Errorf("Ranges: %v", got)
			}
		}
	}
	noTable(t, "no names", []api.Entry{one(1, 1, "L")}, nil)
	noTable(t, "no names", []api.Entry{one(1, 1, "L")}, []string{})
	p := pairs(t, nil)
	if n, how, is := p.At(0); n != -1 || how != "" || is || p.Len() != 0 {
		t.Errorf("no pairs: %x, %q, %v, %d", n, how, is, p.Len())
	}
}

// P3.1, P1: what is nil, or was never filled, has nothing.
func TestNil(t *testing.T) {
	for _, x := range []*ranges.Table{nil, {}} {
		for _, c := range edges {
			if n := x.At(c); n != 0 {
				t.Errorf("At(%x): %d", c, n)
			}
		}
		if l := x.Ranges(); len(l) != 0 {
			t.Errorf("Ranges: %v", l)
		}
	}
	for _, p := range []*ranges.Pairs{nil, {}} {
		for _, c := range edges {
			if n, how, is := p.At(c); n != -1 || how != "" || is {
				t.Errorf("At(%x): %x, %q, %v", c, n, how, is)
			}
		}
		if n := p.Len(); n != 0 {
			t.Errorf("Len: %d", n)
		}
	}
}

// wrongLists are neither a table's nor pairs; the Values "0041" and "0042" may be both names and figures.
var wrongLists = map[string][]api.Entry{
	"From at the To ahead":      {one(5, 5, "0041"), one(5, 5, "0041")},
	"From at the To, other":     {one(5, 5, "0041"), one(5, 5, "0042")},
	"out of order":              {one(6, 6, "0041"), one(5, 5, "0041")},
	"out of order, at the end":  {one(1, 1, "0041"), one(7, 7, "0042"), one(6, 6, "0041")},
	"twice, apart":              {one(1, 1, "0041"), one(2, 2, "0041"), one(1, 1, "0041")},
	"From above To":             {one(6, 5, "0041")},
	"From below 0":              {one(-1, -1, "0041")},
	"From below 0, To not":      {one(-1, 0, "0041")},
	"beyond the greatest":       {one(0x110000, 0x110000, "0041")},
	"To beyond the greatest":    {one(0x10FFFF, 0x110000, "0041")},
	"the greatest of all":       {one(math.MaxInt, math.MaxInt, "0041")},
	"the least of all":          {one(math.MinInt, math.MinInt, "0041")},
	"no Value":                  {one(5, 5, "")},
	"a Value with a blank":      {one(5, 5, "0041 ")},
	"a Value of 17":             {one(5, 5, "00000000000000041")},
	"an Extra with a blank":     {{From: 5, To: 5, Value: "0041", Extra: "a b"}},
	"an Extra of 17":            {{From: 5, To: 5, Value: "0041", Extra: seventeen}},
	"an Extra of another sign":  {{From: 5, To: 5, Value: "0041", Extra: "-"}},
	"a Value that is not there": {one(5, 5, "x")},
	"wrong ahead of right ones": {one(5, 5, "x"), one(6, 6, "0041")},
	"wrong behind right ones":   {one(5, 5, "0041"), one(6, 6, "x")},
	"not right, behind":         {one(5, 5, "0041"), {From: 6, To: 6, Value: "0042", Extra: "?"}},
	"nothing at all":            {{}},
	"nothing, behind":           {one(5, 5, "0041"), {}},
}

// P3.1: lists that are neither a table's nor pairs.
func TestWrongLists(t *testing.T) {
	for what, l := range wrongLists {
		noTable(t, what, l, []string{"0041", "0042"})
		noTable(t, what, l, []string{"a", "0041", "0042"})
		noPairs(t, what, l)
	}
	for what, l := range map[string][]api.Entry{
		"From at the To ahead": {one(5, 9, "a"), one(9, 12, "a")},
		"one over the other":   {one(5, 9, "a"), one(8, 12, "b")},
		"one within the other": {one(5, 9, "a"), one(6, 7, "b")},
		"one about the other":  {one(5, 9, "a"), one(4, 10, "a")},
		"the same, twice":      {one(5, 9, "a"), one(5, 9, "a")},
		"another's case":       {one(5, 9, "A")},
		"a name's beginning":   {one(5, 9, "_")},
		"a name and more":      {one(5, 9, "ab")},
		"number 0, over":       {one(5, 9, "a"), one(9, 9, "_0")},
		"number 0, twice":      {one(5, 9, "_0"), one(9, 9, "_0")},
	} {
		noTable(t, what, l, []string{"_0", "a", "b"})
		noPairs(t, what, l)
	}
}

// P3.1: From just above the To ahead of it, and at it.
func TestFromAboveTheToAhead(t *testing.T) {
	names := []string{"a", "b", "c"}
	for _, to := range []int{0, 1, 9, 0xD7FF, 0xFFFF, 0x10FFFE} {
		for _, l := range [][]api.Entry{{one(0, to, "b"), one(to+1, 0x10FFFF, "c")}, {one(to, to, "c"), one(to+1, to+1, "b")}} {
			x := table(t, l, names)
			sameNumbers(t, x, l, names)
			if got := x.Ranges(); !slices.Equal(got, l) {
				t.Errorf("Ranges of %v: %v", l, got)
			}
		}
		noTable(t, "at it", []api.Entry{one(0, to, "b"), one(to, 0x10FFFF, "c")}, names)
		pairs(t, []api.Entry{one(to, to, "0041"), one(to+1, to+1, "0042")})
		noPairs(t, "at it", []api.Entry{one(to, to, "0041"), one(to, to, "0042")})
	}
}

// P3.1: MaxTable entries, and one more.
func TestAsManyAsMayBe(t *testing.T) {
	names := []string{"zero", "b", "c", "d"}
	var l, p []api.Entry
	for i := range api.MaxTable {
		l = append(l, one(7*i+i%3, 7*i+i%3+i%5, names[i%4]))
		p = append(p, api.Entry{From: 3 * i, To: 3 * i, Value: fmt.Sprintf("%04X", 5*i), Extra: strings.Repeat("x", i%17)})
	}
	x := table(t, l, names)
	sameNumbers(t, x, l, names)
	if got, want := x.Ranges(), told(x, names, 0, 7*601); !slices.Equal(got, want) {
		t.Errorf("Ranges: %v, want %v", got, want)
	}
	again(t, x, l, names)
	samePairs(t, pairs(t, p), p)
	for _, e := range []api.Entry{one(0x10FFFF, 0x10FFFF, "b"), one(0x10FFFF, 0x10FFFF, "zero"), one(7*600, 7*600, names[api.MaxTable%4])} {
		noTable(t, "one more", append(slices.Clone(l), e), names)
	}
	noPairs(t, "one more", append(slices.Clone(p), one(0x10FFFF, 0x10FFFF, "0041")))
	side := make([]api.Entry, 0, api.MaxTable+1)
	for i := range api.MaxTable + 1 {
		side = append(side, one(i, i, "b"))
	}
	if got := table(t, side[:api.MaxTable], names).Ranges(); !slices.Equal(got, []api.Entry{one(0, api.MaxTable-1, "b")}) {
		t.Errorf("Ranges of all side by side: %v", got)
	}
	noTable(t, "one more, though their shortest list is short", side, names)
}

// P3.1: 40 names, each with its place, and one more.
func TestManyNames(t *testing.T) {
	var names []string
	var l []api.Entry
	for i := range 41 {
		names = append(names, fmt.Sprintf("n%d", i))
		l = append(l, one(100-i, 100-i, names[i]))
	}
	slices.Reverse(l)
	for n := range 41 {
		x := table(t, l[41-n:], names[:n])
		sameNumbers(t, x, l[41-n:], names[:n])
		if got := x.Ranges(); len(got) != max(0, n-1) {
			t.Errorf("Ranges of %d names: %v", n, got)
		}
		again(t, x, l[41-n:], names[:n])
	}
	noTable(t, "41 names", l, names)
	noTable(t, "41 names, no entries", nil, names)
	noTable(t, "41 names, one entry", l[40:], names)
	noTable(t, "40 names, the 41st as a Value", l, names[:40])
}

// P3.1: a name twice, wherever it stands, and names that are none.
func TestWrongNames(t *testing.T) {
	l := []api.Entry{one(5, 9, "a")}
	for what, names := range map[string][]string{
		"twice":                 {"a", "a"},
		"twice, apart":          {"a", "b", "c", "a"},
		"twice, not asked for":  {"a", "b", "b"},
		"no byte":               {"a", ""},
		"no byte, alone":        {""},
		"17 bytes":              {"a", seventeen},
		"a blank":               {"a", "b c"},
		"a blank behind":        {"a", "b "},
		"a blank alone":         {"a", " "},
		"a mark":                {"a", "-"},
		"what stands between":   {"a", ";"},
		"a remark":              {"a", "#"},
		"a byte 10":             {"a", "b\n"},
		"a byte 0":              {"a", "\x00"},
		"no scalar's bytes":     {"a", "\xff"},
		"a letter beyond ASCII": {"a", "\u05d0"},
		"a figure beyond ASCII": {"a", "\u0661"},
		"far too long":          {"a", strings.Repeat("x", 1<<16)},
		"the first one wrong":   {"?", "a"},
	} {
		noTable(t, what, l, names)
		noTable(t, what, nil, names)
	}
	for _, names := range [][]string{{"a", "A"}, {"a", "aa"}, {"_", "a"}, {"a", "a_"}, {"0", "a"}, {"a", sixteen}} {
		sameNumbers(t, table(t, l, names), l, names)
	}
}

// P3.1: each byte as a name, in names of each length.
func TestEachByteOfNames(t *testing.T) {
	for b := range 0x100 {
		may := b == '_' || b >= '0' && b <= '9' || b >= 'A' && b <= 'Z' || b >= 'a' && b <= 'z'
		for n := range 19 {
			s := strings.Repeat(string([]byte{byte(b)}), n)
			names := []string{"first", s}
			l := []api.Entry{one(b, b+n, s)}
			if !may || n < 1 || n > 16 {
				noTable(t, "no name", nil, names)
				noTable(t, "no name", l, names)
				continue
			}
			x := table(t, l, names)
			sameNumbers(t, x, l, names)
			if got := x.Ranges(); !slices.Equal(got, l) {
				t.Errorf("Ranges of %v: %v", l, got)
			}
		}
	}
}

// mayBe says whether entries of numbers up to most are a table's, by the numbers that are taken.
func mayBe(l []api.Entry, names []string, most int) bool {
	next := 0
	for _, e := range l {
		if e.From < next || e.To < e.From || e.To > most || !slices.Contains(names, e.Value) {
			return false
		}
		next = e.To + 1
	}
	return true
}

// eachList goes through all lists of up to n entries of these.
func eachList(of []api.Entry, n int, ask func([]api.Entry)) {
	var more func(l []api.Entry)
	more = func(l []api.Entry) {
		ask(l)
		if len(l) == n {
			return
		}
		for _, e := range of {
			more(append(slices.Clip(l), e))
		}
	}
	more(nil)
}

// P3.1, P3.2: all lists of up to three entries of few numbers, right and wrong ones.
func TestEachShortList(t *testing.T) {
	names := []string{"a", "b", "c"}
	var of []api.Entry
	for from := -1; from <= 4; from++ {
		for to := from - 1; to <= 4; to++ {
			for _, s := range []string{"a", "b", "c", "d"} {
				of = append(of, one(from, to, s))
			}
		}
	}
	eachList(of, 3, func(l []api.Entry) {
		if t.Failed() {
			return
		}
		if !mayBe(l, names, 4) {
			noTable(t, "wrong", l, names)
			return
		}
		x := table(t, l, names)
		for c := -2; c <= 6; c++ {
			if n, want := x.At(c), numberOf(l, names, c); n != want {
				t.Errorf("At(%d) of %v: %d, want %d", c, l, n, want)
			}
		}
		if got, want := x.Ranges(), told(x, names, 0, 5); !slices.Equal(got, want) {
			t.Errorf("Ranges of %v: %v, want %v", l, got, want)
		}
		again(t, x, l, names)
	})
}

// chance is numbers that look like chance, and are the same each time.
type chance uint64

func (r *chance) below(n int) int {
	*r = *r*6364136223846793005 + 1442695040888963407
	return int(uint64(*r>>33) % uint64(n))
}

// P3.1, P3.2: long tables, each number held against the entries.
func TestLongTables(t *testing.T) {
	r := chance(1)
	for range 200 {
		names := []string{"a", "b", "c", "d", "e"}[:1+r.below(5)]
		var l []api.Entry
		for c := r.below(3); len(l) < r.below(api.MaxTable)+1; c += r.below(2) * r.below(4) {
			to := c + r.below(3)*r.below(5)
			l = append(l, api.Entry{From: c, To: to, Value: names[r.below(len(names))], Extra: []string{"", "x"}[r.below(2)]})
			c = to + 1
		}
		x := table(t, l, names)
		most := l[len(l)-1].To + 3
		i := 0
		for c := range most {
			want := 0
			if i < len(l) && l[i].From <= c {
				want = slices.Index(names, l[i].Value)
				if l[i].To == c {
					i++
				}
			}
			if n := x.At(c); n != want {
				t.Fatalf("At(%d) of %v: %d, want %d", c, l, n, want)
			}
		}
		if got, want := x.Ranges(), told(x, names, 0, most); !slices.Equal(got, want) {
			t.Fatalf("Ranges of %v: %v, want %v", l, got, want)
		}
		again(t, x, l, names)
	}
}

// P3.1: each number that may be a scalar's, and no other.
func TestEachNumber(t *testing.T) {
	names := []string{"a", "b", "c"}
	l := []api.Entry{one(0, 0x7F, "b"), one(0xD800, 0xDFFF, "c"), one(0xE000, 0xFFFF, "b"), one(0x10FFFF, 0x10FFFF, "c")}
	x := table(t, l, names)
	for c := -5; c < 0x110005; c++ {
		if n, want := x.At(c), numberOf(l, names, c); n != want {
			t.Fatalf("At(%x): %d, want %d", c, n, want)
		}
	}
}

// samePairs holds pairs against their entries.
func samePairs(t *testing.T, p *ranges.Pairs, l []api.Entry) {
	t.Helper()
	if n := p.Len(); n != len(l) {
		t.Errorf("Len: %d of %d", n, len(l))
	}
	for _, c := range about(l) {
		other, extra, has := -1, "", false
		for _, e := range l {
			if e.From == c {
				fmt.Sscanf(e.Value, "%X", &other)
				extra, has = e.Extra, true
			}
		}
		if n, how, is := p.At(c); n != other || how != extra || is != has {
			t.Errorf("At(%x) of %v: %x, %q, %v, want %x, %q, %v", c, l, n, how, is, other, extra, has)
		}
	}
}

// P3.1: pairs, at numbers that have one, and at others.
func TestPairs(t *testing.T) {
	l := []api.Entry{
		{From: 0, To: 0, Value: "10FFFF", Extra: "o"},
		{From: 0x28, To: 0x28, Value: "0029", Extra: "o"},
		{From: 0x29, To: 0x29, Value: "0028", Extra: "c"},
		{From: 0x3C, To: 0x3C, Value: "00003E"},
		{From: 0x3E, To: 0x3E, Value: "0003C"},
		{From: 0x41, To: 0x41, Value: "0000", Extra: sixteen},
		{From: 0x42, To: 0x42, Value: "0042"},
		{From: 0x43, To: 0x43, Value: "0042"},
		{From: 0xD7FF, To: 0xD7FF, Value: "E000"},
		{From: 0xE000, To: 0xE000, Value: "D7FF"},
		{From: 0x10FFFF, To: 0x10FFFF, Value: "0000", Extra: "_"},
	}
	p := pairs(t, l)
	samePairs(t, p, l)
	for _, k := range []struct {
		c, n int
		how  string
		is   bool
	}{{0, 0x10FFFF, "o", true}, {0x28, 0x29, "o", true}, {0x29, 0x28, "c", true}, {0x27, -1, "", false}, {0x2A, -1, "", false}, {0x3C, 0x3E, "", true}, {0x41, 0, sixteen, true}, {0x10FFFE, -1, "", false}, {0x10FFFF, 0, "_", true}, {0x110000, -1, "", false}, {-1, -1, "", false}} {
		if n, how, is := p.At(k.c); n != k.n || how != k.how || is != k.is {
			t.Errorf("At(%x): %x, %q, %v", k.c, n, how, is)
		}
	}
}

// P3.1: what has more numbers than one, and Values that are no figures, or no scalar's.
func TestWrongPairs(t *testing.T) {
	noPairs(t, "two numbers", []api.Entry{one(5, 6, "0041")})
	noPairs(t, "all numbers", []api.Entry{one(0, 0x10FFFF, "0041")})
	noPairs(t, "two numbers, behind", []api.Entry{one(5, 5, "0041"), one(6, 7, "0041")})
	for _, s := range []string{"", "L", "4", "41", "041", "0000041", "004a", "00FFf", "004G", "0x41", "_0041", "00_41", "110000", "FFFFFF", "D800", "DABC", "DFFF", "00D800", "0DFFF", "0041 ", "0041..0042", "-041", "+041", "00\u0661"} {
		noPairs(t, "the Value", []api.Entry{one(5, 5, s)})
		noPairs(t, "the Value, behind", []api.Entry{one(4, 4, "0041"), one(5, 5, s)})
		noPairs(t, "the Value, ahead", []api.Entry{one(5, 5, s), one(6, 6, "0041")})
	}
	for _, s := range []string{"0000", "00000", "000000", "D7FF", "E000", "FFFF", "10FFFF"} {
		l := []api.Entry{one(5, 5, s)}
		samePairs(t, pairs(t, l), l)
	}
}

// P3.1: all lists of up to three pairs of few numbers, right and wrong ones.
func TestEachShortListOfPairs(t *testing.T) {
	values := []string{"0001", "00002", "D800", "x"}
	var of []api.Entry
	for from := -1; from <= 3; from++ {
		for to := from; to <= from+1; to++ {
			for i, s := range values {
				of = append(of, api.Entry{From: from, To: to, Value: s, Extra: []string{"", "o", "", "o"}[i]})
			}
		}
	}
	eachList(of, 3, func(l []api.Entry) {
		if t.Failed() {
			return
		}
		may := mayBe(l, values[:2], 4)
		for _, e := range l {
			may = may && e.From == e.To
		}
		if !may {
			noPairs(t, "wrong", l)
			return
		}
		samePairs(t, pairs(t, l), l)
	})
}

// P2: what was handed in, and what was answered, may be written into without any change of what is answered.
func TestNothingIsShared(t *testing.T) {
	names := []string{"a", "b", "c"}
	l := []api.Entry{one(5, 9, "b"), one(10, 12, "b"), one(20, 20, "a"), {From: 30, To: 39, Value: "c", Extra: "x"}}
	p := []api.Entry{{From: 5, To: 5, Value: "0041", Extra: "o"}, one(6, 6, "0042")}
	myNames, myL, myP := slices.Clone(names), slices.Clone(l), slices.Clone(p)
	x, y := table(t, myL, myNames), pairs(t, myP)
	if !slices.Equal(names, myNames) || !slices.Equal(l, myL) || !slices.Equal(p, myP) {
		t.Fatalf("written into: %q, %v, %v", myNames, myL, myP)
	}
	clear(myNames)
	clear(myL)
	clear(myP)
	want := []api.Entry{one(5, 12, "b"), one(30, 39, "c")}
	for range 3 {
		sameNumbers(t, x, l, names)
		samePairs(t, y, p)
		got, other := x.Ranges(), x.Ranges()
		for i := range got[:cap(got)] {
			got[:cap(got)][i] = one(0, 0x10FFFF, "c")
		}
		if !slices.Equal(other, want) || !slices.Equal(x.Ranges(), want) {
			t.Fatalf("Ranges: %v, %v", other, x.Ranges())
		}
		_ = append(other[:1], one(0, 0, "c"))
	}
}

// P2: TestBehindTheLength has entries and names behind a list's length that would make it wrong, or other.
func TestBehindTheLength(t *testing.T) {
	names := []string{"a", "b", "b", "?"}
	l := []api.Entry{one(5, 9, "b"), one(9, 12, "?"), {}}
	p := []api.Entry{one(5, 5, "0041"), one(5, 5, "x")}
	sameNumbers(t, table(t, l[:1], names[:2]), l[:1], names[:2])
	samePairs(t, pairs(t, p[:1]), p[:1])
	table(t, l[:0], names[:0])
	if !slices.Equal(names, []string{"a", "b", "b", "?"}) || l[1] != one(9, 12, "?") || l[2] != (api.Entry{}) || p[1] != one(5, 5, "x") {
		t.Errorf("written into: %q, %v, %v", names, l, p)
	}
}

// P2: TestByArgumentsAlone has several tables at once, wrong ones between, each with its own answers.
func TestByArgumentsAlone(t *testing.T) {
	l := []api.Entry{one(5, 9, "b"), one(10, 12, "c")}
	ab, ba := []string{"a", "b", "c"}, []string{"b", "c", "a"}
	for range 3 {
		x, y := table(t, l, ab), table(t, l, ba)
		p, q := pairs(t, []api.Entry{one(5, 5, "0041")}), pairs(t, []api.Entry{one(5, 5, "0042"), one(6, 6, "0043")})
		noTable(t, "between", l, []string{"a"})
		noPairs(t, "between", l)
		for range 2 {
			sameNumbers(t, x, l, ab)
			sameNumbers(t, y, l, ba)
			samePairs(t, p, []api.Entry{one(5, 5, "0041")})
			samePairs(t, q, []api.Entry{one(5, 5, "0042"), one(6, 6, "0043")})
		}
		if got := y.Ranges(); !slices.Equal(got, []api.Entry{one(10, 12, "c")}) {
			t.Errorf("Ranges: %v", got)
		}
	}
}

// P1: TestFarTooMany has lists that are far longer than right ones.
func TestFarTooMany(t *testing.T) {
	l := make([]api.Entry, 1<<18)
	for i := range l {
		l[i] = one(i, i, "0041")
	}
	noTable(t, "entries", l, []string{"0041"})
	noPairs(t, "entries", l)
	noTable(t, "names", nil, make([]string, 1<<20))
}
