package ucd_test

import (
	"fmt"
	"math"
	"regexp"
	"slices"
	"strconv"
	"strings"
	"testing"

	"frisket/api"
	"frisket/ucd"
)

const (
	sixteen   = "abcXYZ_019_hijkl"
	seventeen = sixteen + "m"
)

// known are right entries at the edges that the chapter names, with their lines written out.
var known = []struct {
	e    api.Entry
	line string
}{
	{api.Entry{From: 0x41, To: 0x5A, Value: "L"}, "0041..005A ; L"},
	{api.Entry{From: 0x28, To: 0x28, Value: "0029", Extra: "o"}, "0028 ; 0029 ; o"},
	{api.Entry{Value: "L"}, "0000 ; L"},
	{api.Entry{To: 1, Value: "_"}, "0000..0001 ; _"},
	{api.Entry{From: 0xA, To: 0xA, Value: "LF"}, "000A ; LF"},
	{api.Entry{From: 0xFFF, To: 0x1000, Value: "0"}, "0FFF..1000 ; 0"},
	{api.Entry{From: 0xD800, To: 0xDFFF, Value: "R"}, "D800..DFFF ; R"},
	{api.Entry{From: 0xFFFF, To: 0xFFFF, Value: "z", Extra: "Z"}, "FFFF ; z ; Z"},
	{api.Entry{From: 0xFFFF, To: 0x10000, Value: "a"}, "FFFF..10000 ; a"},
	{api.Entry{From: 0xFFFFF, To: 0x100000, Value: "A", Extra: "9"}, "FFFFF..100000 ; A ; 9"},
	{api.Entry{From: 0x10FFFF, To: 0x10FFFF, Value: "W_1"}, "10FFFF ; W_1"},
	{api.Entry{To: 0x10FFFF, Value: sixteen, Extra: sixteen}, "0000..10FFFF ; " + sixteen + " ; " + sixteen},
}

// wrongFirst are no first fields.
var wrongFirst = map[string]string{
	"nothing":                    "",
	"one figure":                 "4",
	"three figures":              "041",
	"seven figures":              "0000041",
	"six figures too great":      "110000",
	"the greatest of six":        "FFFFFF",
	"small letters":              "004a",
	"a letter beyond F":          "004G",
	"a sign ahead":               "+041",
	"a sign below 0":             "-041",
	"a prefix":                   "0x41",
	"U+":                         "U+0041",
	"_ between":                  "00_41",
	"a blank within":             "00 41",
	"figures beyond ASCII":       "\u0660\u0660\u0664\u0661",
	"one figure beyond ASCII":    "00\u0661",
	"four wide figures":          "\uff10\uff10\uff14\uff11",
	"a byte that is no scalar's": "004\xff",
	"a byte 0":                   "0041\x00",
	"a byte 13":                  "0041\r",
	"a single dot":               "0041.0042",
	"three dots":                 "0041...0042",
	"four dots":                  "0041....0042",
	"dots alone":                 "..",
	"none ahead of the dots":     "..0042",
	"none behind the dots":       "0041..",
	"three numbers":              "0041..0042..0043",
	"a blank ahead of the dots":  "0041 ..0042",
	"a blank behind the dots":    "0041.. 0042",
	"a blank between the dots":   "0041. .0042",
	"another sign between":       "0041-0042",
	"From above To":              "0042..0041",
	"From far above To":          "10FFFF..0000",
	"three figures to begin":     "041..0042",
	"three figures to end":       "0041..042",
	"seven figures to end":       "0041..0000042",
	"too great to end":           "0041..110000",
	"small letters to end":       "0041..004a",
}

// wrongWords are no fields behind the first one.
var wrongWords = []string{
	"", seventeen, strings.Repeat("a", 300), "L-1", "a b", "a\tb", "a.b", "a+", "-", "'a'", "\"a\"", "a/b", "a:b", "@", "[", "`", "{", "a\x00", "a\r", "\x7f",
	"\xff", "a\xff", "\xc3", "a\xc3\xa9", "\xef\xbf\xbd", "\u05d0", "\u0661", "\u2160", "\uff21", "\U0001F600", "\u017f", "\u212a", "\u00a0a", "a\u2028", "\u3000",
}

// P2.1: each known entry, there and back, by itself.
func TestKnownEntries(t *testing.T) {
	for _, k := range known {
		if !ucd.Right(k.e) {
			t.Errorf("%v is right", k.e)
		}
		b, e := ucd.Text([]api.Entry{k.e})
		if string(b) != k.line+"\n" || e != api.OK {
			t.Errorf("Text of %v: %q, %v", k.e, b, e)
		}
		for _, behind := range []string{"", "\n"} {
			l, e := ucd.Parse([]byte(k.line + behind))
			if !slices.Equal(l, []api.Entry{k.e}) || e != api.OK {
				t.Errorf("Parse of %q: %v, %v", k.line+behind, l, e)
			}
		}
	}
}

// P2.1, P2.2: texts of many entries, which stay in their order, whatever their numbers.
func TestManyEntriesInOrder(t *testing.T) {
	var l []api.Entry
	var s string
	for i := range known {
		k := known[len(known)-1-i]
		l, s = append(l, k.e, k.e), s+k.line+"\n"+k.line+"\n"
		if b, e := ucd.Text(l); string(b) != s || e != api.OK {
			t.Errorf("Text of %v: %q, %v", l, b, e)
		}
		if got, e := ucd.Parse([]byte(s)); !slices.Equal(got, l) || e != api.OK {
			t.Errorf("Parse of %q: %v, %v", s, got, e)
		}
	}
}

// P2.1: an entry has other lines beside its own.
func TestOtherLinesOfAnEntry(t *testing.T) {
	a := api.Entry{From: 0x41, To: 0x41, Value: "L"}
	for _, s := range []string{"0041;L", "00041;L", "000041;L", "0041..0041;L", "0041..000041 ; L", "00041..0041 ; L"} {
		if l, e := ucd.Parse([]byte(s)); !slices.Equal(l, []api.Entry{a}) || e != api.OK {
			t.Errorf("%q: %v, %v", s, l, e)
		}
		if b, e := ucd.Text([]api.Entry{a}); string(b) != "0041 ; L\n" || e != api.OK {
			t.Errorf("Text: %q, %v", b, e)
		}
	}
}

// P2.1: a text with no line, and lines with nothing, are no entries and no fault.
func TestNothing(t *testing.T) {
	for _, s := range []string{"", "\n", "\n\n\n", " ", "\t", " \t \n\t \t", "#", "##", "# ; ;", "  # 0041 ; L", "#\n#\n \n\t#", "#\xff\xfe", "# a\n", "#\r\n"} {
		if l, e := ucd.Parse([]byte(s)); len(l) != 0 || e != api.OK {
			t.Errorf("%q: %v, %v", s, l, e)
		}
	}
	if l, e := ucd.Parse(nil); len(l) != 0 || e != api.OK {
		t.Errorf("Parse of nil: %v, %v", l, e)
	}
	for _, l := range [][]api.Entry{nil, {}} {
		if b, e := ucd.Text(l); len(b) != 0 || e != api.OK {
			t.Errorf("Text: %q, %v", b, e)
		}
	}
}

// P2.1: one wrong line is enough, wherever it stands, and no entries are answered beside the error.
func TestWrongFirstFields(t *testing.T) {
	for name, s := range wrongFirst {
		wrongLine(t, name, s+" ; L")
		wrongLine(t, name, s+";L;o")
	}
}

// P2.1: words in both places.
func TestWrongWords(t *testing.T) {
	for _, s := range wrongWords {
		wrongLine(t, "value", "0041 ; "+s)
		wrongLine(t, "value", "0041;"+s+";o")
		wrongLine(t, "extra", "0041 ; L ; "+s)
		wrongLine(t, "extra", "0041;L;"+s)
		if right(api.Entry{Value: s}) {
			t.Errorf("value %q is none", s)
		}
		if s != "" && right(api.Entry{Value: "L", Extra: s}) {
			t.Errorf("extra %q is none", s)
		}
	}
}

// P2.1: too few fields, and too many.
func TestWrongNumbersOfFields(t *testing.T) {
	for _, s := range []string{"0041", "0041..0042", "L", "x", ";", ";;", ";;;", "; ;", "; L", ";0041;L", "0041;", "0041 ; L ;", "0041;;", "0041;;o", "0041;L;o;", "0041 ; L ; a ; b", "0041;L;o;p;q", "0041,L", "0041 L", "0041\tL", "0041:L", "0041 ; L\r", "\v0041;L", "\u00a00041;L", "\xef\xbb\xbf0041;L", "0041" + strings.Repeat(";a", 5000), strings.Repeat(";", 5000)} {
		wrongLine(t, "fields", s)
	}
	wrongLine(t, "the remark takes the field", "0041 # ; L")
	wrongLine(t, "the remark takes the value", "0041 ; # L")
	wrongLine(t, "the remark takes the extra", "0041 ; L ; # o")
	wrongLine(t, "the line ends ahead of the field", "0041\n; L")
	wrongLine(t, "a return is no line's end", "0041;L\r0042;L")
}

func wrongLine(t *testing.T, name, s string) {
	t.Helper()
	for _, ahead := range []string{"", "\n", "0041 ; L\n", "# x\n\n0041..0042 ; L ; o\n"} {
		for _, behind := range []string{"", "\n", "\n0043 ; R", " # x", "\n0043"} {
			if l, e := ucd.Parse([]byte(ahead + s + behind)); len(l) != 0 || e != api.ErrUcd {
				t.Errorf("%s: Parse of %.200q: %v, %v", name, ahead+s+behind, l, e)
			}
		}
	}
}

// right is what Right says, if Text says the same.
func right(x api.Entry) bool {
	b, e := ucd.Text([]api.Entry{x})
	is := ucd.Right(x)
	if is != (e == api.OK) || is != (len(b) > 0) {
		panic(fmt.Sprintf("%v: Right says %v, Text %q, %v", x, is, b, e))
	}
	return is
}

// P2.1: From and To at their edges, each with each.
func TestEndsOfEntries(t *testing.T) {
	at := []int{math.MinInt, math.MinInt32, -1 << 20, -2, -1, 0, 1, 0xFFFF, 0x10000, 0x10FFFE, 0x10FFFF, 0x110000, 0xFFFFFF, math.MaxInt32, 1 << 32, 1<<32 + 0x41, math.MaxInt}
	for _, from := range at {
		for _, to := range at {
			want := 0 <= from && from <= to && to <= 0x10FFFF
			if got := right(api.Entry{From: from, To: to, Value: "L"}); got != want {
				t.Errorf("%x to %x: %v", from, to, got)
			}
		}
	}
}

// P2.1: one wrong entry is enough, wherever it stands.
func TestTextOfWrongEntries(t *testing.T) {
	good := known[0].e
	for _, x := range []api.Entry{{}, {From: -1, Value: "L"}, {From: 2, To: 1, Value: "L"}, {To: 0x110000, Value: "L"}, {Value: "a b"}, {Value: "L", Extra: "-"}, {Extra: "o"}, {Value: seventeen}, {Value: "L", Extra: seventeen}, {Value: "L\n0041 ; L"}, {Value: "L ; o"}, {Value: "L#"}, {Value: " L"}, {Value: "L", Extra: "o "}} {
		for _, l := range [][]api.Entry{{x}, {good, x}, {x, good}, {good, good, x, good}} {
			if b, e := ucd.Text(l); len(b) != 0 || e != api.ErrUcd {
				t.Errorf("%v: %q, %v", l, b, e)
			}
		}
		if ucd.Right(x) {
			t.Errorf("%v is not right", x)
		}
	}
}

// P2.1: MaxTable entries, and one more.
func TestAsManyAsMayBe(t *testing.T) {
	var l []api.Entry
	for i := range api.MaxTable {
		l = append(l, api.Entry{From: 2 * i, To: 2*i + i%2, Value: "V" + strconv.Itoa(i%7), Extra: strings.Repeat("x", i%17)})
	}
	b, e := ucd.Text(l)
	if e != api.OK || strings.Count(string(b), "\n") != 600 {
		t.Fatalf("Text: %d bytes, %v", len(b), e)
	}
	for _, s := range []string{string(b), string(b) + "\n# no entry\n \n", strings.ReplaceAll(string(b), "\n", "\n#\n\n")} {
		if got, e := ucd.Parse([]byte(s)); !slices.Equal(got, l) || e != api.OK {
			t.Errorf("Parse: %d entries, %v", len(got), e)
		}
	}
	if got, e := ucd.Parse([]byte(string(b) + "10FFFF ; L")); len(got) != 0 || e != api.ErrUcd {
		t.Errorf("Parse of one more: %d entries, %v", len(got), e)
	}
	if got, e := ucd.Parse([]byte(string(b) + "10FFFF")); len(got) != 0 || e != api.ErrUcd {
		t.Errorf("Parse with a wrong one behind: %d entries, %v", len(got), e)
	}
	if b, e := ucd.Text(append(l, known[0].e)); len(b) != 0 || e != api.ErrUcd {
		t.Errorf("Text of one more: %d bytes, %v", len(b), e)
	}
}

// P2.1: Hex of texts that are numbers, and of others.
func TestHex(t *testing.T) {
	for s, want := range map[string]int{"0000": 0, "00000": 0, "000000": 0, "0041": 0x41, "00FFFF": 0xFFFF, "FFFF": 0xFFFF, "D800": 0xD800, "FFFFF": 0xFFFFF, "10000": 0x10000, "ABCD": 0xABCD, "09EF": 0x9EF, "10FFFF": 0x10FFFF, "10FFFE": 0x10FFFE} {
		if n, is := ucd.Hex(s); n != want || !is {
			t.Errorf("%q: %x, %v", s, n, is)
		}
	}
	none := []string{"", "0", "041", "0000041", "00000000", "110000", "FFFFFF", " 0041", "0041 ", "0041\n", "0041..0042", strings.Repeat("0", 1000)}
	for _, s := range wrongFirst {
		none = append(none, s)
	}
	for _, s := range none {
		if n, is := ucd.Hex(s); n != 0 || is {
			t.Errorf("%q: %x, %v", s, n, is)
		}
	}
}

// P2.1: each byte in each place of a number.
func TestHexOfEachByte(t *testing.T) {
	for n := range 8 {
		for at := range n {
			for x := range 0x100 {
				b := []byte(strings.Repeat("0", n))
				b[at] = byte(x)
				v, err := strconv.ParseInt(string(b), 16, 64)
				want := err == nil && n >= 4 && n <= 6 && v <= 0x10FFFF && strings.IndexByte("0123456789ABCDEF", byte(x)) >= 0
				if !want {
					v = 0
				}
				if got, is := ucd.Hex(string(b)); got != int(v) || is != want {
					t.Fatalf("%q: %x, %v", b, got, is)
				}
			}
		}
	}
}

// P2.2: all numbers there and back, by Hex and by lines, alone and as both ends.
func TestEachNumberThereAndBack(t *testing.T) {
	var l []api.Entry
	var s strings.Builder
	for c := 0; c <= api.MaxScalar; c++ {
		if n, is := ucd.Hex(fmt.Sprintf("%04X", c)); n != c || !is {
			t.Fatalf("Hex of %04X: %x, %v", c, n, is)
		}
		if c%2 == 0 {
			l = append(l, api.Entry{From: c, To: c, Value: "a"})
			fmt.Fprintf(&s, "%04X ; a\n", c)
		} else {
			l = append(l, api.Entry{From: c, To: api.MaxScalar, Value: "b", Extra: "c"})
			if c == api.MaxScalar {
				fmt.Fprintf(&s, "10FFFF ; b ; c\n")
			} else {
				fmt.Fprintf(&s, "%04X..10FFFF ; b ; c\n", c)
			}
		}
		if len(l) == 512 {
			thereAndBack(t, l, s.String())
			l, s = nil, strings.Builder{}
		}
	}
	thereAndBack(t, l, s.String())
}

func thereAndBack(t *testing.T, l []api.Entry, s string) {
	t.Helper()
	b, e := ucd.Text(l)
	if string(b) != s || e != api.OK {
		t.Fatalf("Text of %v: %q, %v", l, b, e)
	}
	if got, e := ucd.Parse(b); !slices.Equal(got, l) || e != api.OK {
		t.Fatalf("Parse of %q: %v, %v", b, got, e)
	}
}

// P2.2: each sign that may stand in a word, in words of each length, and each byte that may not.
func TestEachSignThereAndBack(t *testing.T) {
	for x := range 0x100 {
		sign := string([]byte{byte(x)})
		may := x == '_' || x >= '0' && x <= '9' || x >= 'A' && x <= 'Z' || x >= 'a' && x <= 'z'
		for n := range 19 {
			s := strings.Repeat(sign, n)
			want := may && n >= 1 && n <= 16
			if got := right(api.Entry{Value: s}); got != want {
				t.Fatalf("value %q: %v", s, got)
			}
			if got := right(api.Entry{Value: "L", Extra: s}); got != (want || n == 0) {
				t.Fatalf("extra %q: %v", s, got)
			}
			if want {
				thereAndBack(t, []api.Entry{{Value: s}, {Value: s, Extra: s}}, "0000 ; "+s+"\n0000 ; "+s+" ; "+s+"\n")
			}
		}
	}
}

// remarks are what may stand behind a line.
var remarks = []string{"", "#", "# x", "#x ; y ; z ; u", "##", " # a # b", "\t#\t", "#\xff\xc3\x80", "#\x00\r", "# 0041 ; L", "#" + strings.Repeat("long ", 200)}

// P2.3: blanks at the ends of lines and fields, and remarks, in all places, change nothing.
func TestWhatDoesNotCount(t *testing.T) {
	for _, k := range known {
		fields := strings.Split(k.line, " ; ")
		for _, ahead := range []string{"", " ", "\t", "  \t \t\t  "} {
			for _, behind := range []string{"", " ", "\t", "\t  \t"} {
				s := ahead + strings.Join(fields, behind+";"+ahead) + behind
				for _, r := range remarks {
					sameAs(t, s+r, k.e)
					sameAs(t, "\n"+r+"\n"+s+r+"\n"+ahead+r+"\n"+behind, k.e)
				}
			}
		}
	}
}

func sameAs(t *testing.T, s string, x api.Entry) {
	t.Helper()
	if l, e := ucd.Parse([]byte(s)); !slices.Equal(l, []api.Entry{x}) || e != api.OK {
		t.Errorf("%.200q: %v, %v", s, l, e)
	}
}

// P2.3: what is wrong stays so, whatever blanks and remarks stand about it.
func TestWhatDoesNotCountMendsNothing(t *testing.T) {
	for _, s := range []string{"0041", "0041;", "0041;L;", "004a;L", "0042..0041;L", "0041;L;a;b"} {
		for _, ahead := range []string{" ", "\t", " \t "} {
			for _, r := range remarks {
				wrongLine(t, "wrong", ahead+strings.ReplaceAll(s, ";", ahead+";"+ahead)+ahead+r)
			}
		}
	}
}

// wanted reads a line in another way: by one pattern.
var wanted = regexp.MustCompile(`(?s)^[ \t]*(?:([0-9A-F]{4,6})(?:\.\.([0-9A-F]{4,6}))?[ \t]*;[ \t]*([0-9A-Za-z_]{1,16})[ \t]*(?:;[ \t]*([0-9A-Za-z_]{1,16})[ \t]*)?)?(?:#.*)?$`)

func parseByPattern(s string) ([]api.Entry, api.Errno) {
	var l []api.Entry
	for _, line := range strings.Split(s, "\n") {
		m := wanted.FindStringSubmatch(line)
		if m == nil {
			return nil, api.ErrUcd
		}
		if m[1] == "" {
			continue
		}
		if m[2] == "" {
			m[2] = m[1]
		}
		from, _ := strconv.ParseInt(m[1], 16, 64)
		to, _ := strconv.ParseInt(m[2], 16, 64)
		if from > to || to > 0x10FFFF {
			return nil, api.ErrUcd
		}
		l = append(l, api.Entry{From: int(from), To: int(to), Value: m[3], Extra: m[4]})
	}
	return l, api.OK
}

func compare(t *testing.T, s string) {
	t.Helper()
	want, wantE := parseByPattern(s)
	got, e := ucd.Parse([]byte(s))
	if !slices.Equal(got, want) || e != wantE {
		t.Errorf("%q: %v, %v, want %v, %v", s, got, e, want, wantE)
	}
}

// P2.1, P2.3, P1: TestOneByteOff has known lines with each byte taken out, put in, or in the place of another one.
func TestOneByteOff(t *testing.T) {
	for _, k := range known {
		for _, s := range []string{k.line, "\t" + k.line + " # " + k.line, strings.ReplaceAll(k.line, " ", ""), "# x\n" + k.line + "\n"} {
			compare(t, s)
			for at := range len(s) + 1 {
				if at < len(s) {
					compare(t, s[:at]+s[at+1:])
				}
				for x := range 0x100 {
					one := string([]byte{byte(x)})
					compare(t, s[:at]+one+s[at:])
					if at < len(s) {
						compare(t, s[:at]+one+s[at+1:])
					}
				}
			}
			if t.Failed() {
				return
			}
		}
	}
}

// P2.1, P2.3, P1: TestShortTexts has all texts of up to six pieces that may mean something, and right beginnings with up to five behind.
func TestShortTexts(t *testing.T) {
	pieces := []string{"0041", "..", ";", " ", "#", "\n", "L"}
	var try func(s string, n int)
	try = func(s string, n int) {
		compare(t, s)
		if n == 0 || t.Failed() {
			return
		}
		for _, p := range pieces {
			try(s+p, n-1)
		}
	}
	try("", 6)
	try("0041;L", 5)
	try("0041..0042;L;", 5)
}

// P1: TestLongTexts has lines, remarks and fields that are far longer than right ones.
func TestLongTexts(t *testing.T) {
	const many = 1 << 20
	for _, s := range []string{strings.Repeat(" ", many), strings.Repeat("\n", many), strings.Repeat("#", many), strings.Repeat("#\n", many)} {
		if l, e := ucd.Parse([]byte(s)); len(l) != 0 || e != api.OK {
			t.Errorf("%.20q ..: %v, %v", s, l, e)
		}
	}
	for _, s := range []string{"0041;L#" + strings.Repeat("x", many), strings.Repeat("\t", many) + "0041" + strings.Repeat(" ", many) + ";L" + strings.Repeat("\t", many)} {
		sameAs(t, s, api.Entry{From: 0x41, To: 0x41, Value: "L"})
	}
	for _, s := range []string{strings.Repeat(";", many), strings.Repeat("0", many), strings.Repeat(".", many), strings.Repeat("\xff", many), "0041;" + strings.Repeat("L", many), strings.Repeat("0041;L\n", many)} {
		if l, e := ucd.Parse([]byte(s)); len(l) != 0 || e != api.ErrUcd {
			t.Errorf("%.20q ..: %d entries, %v", s, len(l), e)
		}
		if n, is := ucd.Hex(s); n != 0 || is {
			t.Errorf("%.20q ..: %x", s, n)
		}
		if ucd.Right(api.Entry{Value: s}) {
			t.Errorf("%.20q .. is no value", s)
		}
	}
}

// P2: TestBehindTheLength has bytes and entries behind a list's length that would make it wrong, or other.
func TestBehindTheLength(t *testing.T) {
	const s = "0041 ; LRO ; o\n0042 ; x"
	whole := []byte(s)
	for n := range len(whole) + 1 {
		want, wantE := parseByPattern(s[:n])
		if got, e := ucd.Parse(whole[:n]); !slices.Equal(got, want) || e != wantE {
			t.Errorf("%q: %v, %v", s[:n], got, e)
		}
	}
	if string(whole) != s {
		t.Errorf("the bytes were written into: %q", whole)
	}
	l := []api.Entry{known[0].e, {}}
	if b, e := ucd.Text(l[:1]); string(b) != known[0].line+"\n" || e != api.OK || l[1] != (api.Entry{}) {
		t.Errorf("Text: %q, %v, %v", b, e, l)
	}
}

// P2: TestByArgumentsAlone asks the same again, behind other calls, wrong ones too, and behind writing into the answers and into what was handed in.
func TestByArgumentsAlone(t *testing.T) {
	const s = "0041..005A ; L\n0028 ; 0029 ; o\n"
	want := []api.Entry{{From: 0x41, To: 0x5A, Value: "L"}, {From: 0x28, To: 0x28, Value: "0029", Extra: "o"}}
	for range 3 {
		text := []byte(s)
		l, e := ucd.Parse(text)
		if string(text) != s {
			t.Fatalf("what was handed in was written into: %q", text)
		}
		for i := range text {
			text[i] = '!'
		}
		if !slices.Equal(l, want) || e != api.OK {
			t.Fatalf("Parse: %v, %v", l, e)
		}
		b, e := ucd.Text(l)
		if string(b) != s || e != api.OK || !slices.Equal(l, want) {
			t.Fatalf("Text: %q, %v", b, e)
		}
		clear(b[:cap(b)])
		clear(l[:cap(l)])
		ucd.Parse([]byte("0041 ; L\n0041"))
		ucd.Text([]api.Entry{want[0], {}})
		ucd.Hex("004a")
		ucd.Right(api.Entry{})
	}
}
