package resolve_test

import (
	"regexp"
	"slices"
	"strings"
)

// The paragraphs and lines of the tests, read another way: as texts, each scalar by a look at the whole of them.

// reading is a paragraph that is read.
type reading struct {
	text   string // with ? for what is marked, and for what is no class
	marks  string
	base   int
	levels []int  // as scalars are nested; in the end as they are
	as     []byte // with the overrides
}

// nest is what is open around a scalar.
type nest struct {
	level  int
	over   byte // L, R, or 0
	kind   byte // e of an embedding, i of an isolate, or 0
	within bool // it is an isolate, or one is open around it
	deep   bool // too deep for a level of its own
}

// read is the levels of a paragraph.
func read(text, marks string, base int) []int {
	text = strings.Map(func(r rune) rune {
		if r == other || strings.ContainsRune(marked, r) {
			return '?'
		}
		return r
	}, text)
	if base < 0 {
		base = strong(text, false)
	}
	r := reading{text: text, marks: marks, base: base, levels: make([]int, len(text)), as: []byte(text)}
	from := 0
	for _, part := range strings.SplitAfter(text, "$") {
		r.nested(from, from+len(strings.TrimSuffix(part, "$")), nest{level: base})
		from += len(part)
		if strings.HasSuffix(part, "$") {
			r.levels[from-1] = base
		}
	}
	deep := slices.Clone(r.levels)
	for _, l := range sequences(text, deep) {
		r.sequence(l, deep)
	}
	return r.levels
}

// closed is an isolate that holds no other one.
var closed = regexp.MustCompile(`[(\[{][^(\[{)]*\)`)

// strong is what the first strong of a text makes, up to the end of the isolate that it stands in, if it does.
func strong(s string, inside bool) int {
	s, _, _ = strings.Cut(s, "$")
	for closed.MatchString(s) {
		s = closed.ReplaceAllString(s, "")
	}
	if inside {
		s, _, _ = strings.Cut(s, ")")
	}
	if k := strings.IndexAny(s, "([{"); k >= 0 {
		s = s[:k]
	}
	if k := strings.IndexAny(s, "LRA"); k >= 0 && s[k] != 'L' {
		return 1
	}
	return 0
}

// nested reads how scalars are nested, from one on, below another one; it answers where what is around goes on.
func (r *reading) nested(i, to int, in nest) int {
	for i < to {
		c := r.text[i]
		r.stay(i, in)
		i++
		switch {
		case c == '.' && in.kind == 'e':
			return i
		case c == ')' && in.within:
			return i - 1
		case strings.IndexByte("eoEO", c) >= 0 && !(in.deep && in.kind == 'i'):
			i = r.nested(i, to, embedded(c, in))
		case strings.IndexByte("([{", c) >= 0:
			if i = r.nested(i, to, r.isolated(i, to, in)); i < to {
				r.as[i] = ')'
				r.stay(i, in)
				i++
			}
		}
	}
	return i
}

// stay reads a scalar in what is open around it.
func (r *reading) stay(i int, in nest) {
	r.levels[i] = in.level
	if strings.IndexByte(removed, r.text[i]) >= 0 {
		r.levels[i] = -1
	} else if in.over != 0 {
		r.as[i] = in.over
	}
}

// above is the next level of a side: 0 or 1.
func above(level, side int) int {
	for level++; level%2 != side; {
		level++
	}
	return level
}

// embedded is what LRE, LRO, RLE and RLO open.
func embedded(c byte, in nest) nest {
	level := above(in.level, strings.IndexByte("eoEO", c)/2)
	if in.deep || level > 125 {
		return nest{level: in.level, over: in.over, kind: 'e', within: in.within, deep: true}
	}
	return nest{level: level, over: map[byte]byte{'o': 'L', 'O': 'R'}[c], kind: 'e', within: in.within}
}

// isolated is what LRI, RLI and FSI open, ahead of a place.
func (r *reading) isolated(i, to int, in nest) nest {
	side := strings.IndexByte("([", r.text[i-1])
	if side < 0 {
		side = strong(r.text[i:to], true)
	}
	level := above(in.level, side)
	if in.deep || level > 125 {
		return nest{level: in.level, over: in.over, kind: 'i', within: true, deep: true}
	}
	return nest{level: level, kind: 'i', within: true}
}

// behind is the next place that is not removed; the length, if there is none.
func behind(levels []int, i int) int {
	for i++; i < len(levels) && levels[i] < 0; {
		i++
	}
	return i
}

// ahead is the last place that is not removed; -1, if there is none.
func ahead(levels []int, i int) int {
	for i--; i >= 0 && levels[i] < 0; {
		i--
	}
	return i
}

// end is where the isolate that begins at a place ends; -1, if it doesn't.
func end(text string, at int) int {
	deep := 0
	for i, c := range text[at:] {
		switch c {
		case '(', '[', '{':
			deep++
		case ')':
			if deep--; deep == 0 {
				return at + i
			}
		case '$':
			return -1
		}
	}
	return -1
}

// sequences is the places of all sequences: which place goes on is asked of each.
func sequences(text string, levels []int) [][]int {
	next, goesOn := make([]int, len(text)), make([]bool, len(text))
	for i := behind(levels, -1); i < len(text); i = behind(levels, i) {
		next[i] = -1
		if k := behind(levels, i); k < len(text) && levels[k] == levels[i] {
			next[i] = k
		} else if strings.IndexByte("([{", text[i]) >= 0 {
			next[i] = end(text, i)
		}
		if next[i] >= 0 {
			goesOn[next[i]] = true
		}
	}
	var all [][]int
	for i := behind(levels, -1); i < len(text); i = behind(levels, i) {
		if goesOn[i] {
			continue
		}
		var l []int
		for k := i; k >= 0; k = next[k] {
			l = append(l, k)
		}
		all = append(all, l)
	}
	return all
}

// sequence reads the levels of a sequence's places.
func (r *reading) sequence(l []int, deep []int) {
	level, last := deep[l[0]], l[len(l)-1]
	side := func(near int) string {
		other := r.base
		if near >= 0 && near < len(deep) {
			other = deep[near]
		}
		return "LR"[max(level, other)%2:][:1]
	}
	next := behind(deep, last)
	if strings.IndexByte("([{", r.text[last]) >= 0 {
		next = -1
	}
	first, final := side(ahead(deep, l[0])), side(next)
	came, marks := "", ""
	for _, i := range l {
		came += string(r.as[i])
		marks += (r.marks + strings.Repeat(" ", len(r.text)))[i:][:1]
	}
	b := readWeak(came, first)
	readPairs(b, came, marks, level, first)
	s := readNeutral(string(b), level, first, final)
	for k, i := range l {
		r.levels[i] = level
		if strings.IndexByte("LR12", s[k]) >= 0 {
			r.levels[i] += map[byte][]int{'L': {0, 1}, 'R': {1, 0}, '1': {2, 1}, '2': {2, 1}}[s[k]][level%2]
		}
	}
}

// signs is numbers, and what goes with them.
var signs = regexp.MustCompile(`[1#]+`)

// readWeak is a sequence behind the seven rules.
func readWeak(s, first string) []byte {
	b := []byte(first + s)
	for i := range b {
		if b[i] == '\'' {
			if b[i] = b[i-1]; strings.IndexByte("([{)", b[i]) >= 0 {
				b[i] = '?'
			}
		}
	}
	behindStrong := func(strong, to byte) {
		for i := range b {
			if b[i] == '1' && b[strings.LastIndexAny(string(b[:i]), "LRA")] == strong {
				b[i] = to
			}
		}
	}
	behindStrong('A', '2')
	b = []byte(strings.ReplaceAll(string(b), "A", "R"))
	for i := 1; i+1 < len(b); i++ {
		switch string(b[i-1 : i+2]) {
		case "1+1", "1,1":
			b[i] = '1'
		case "2,2":
			b[i] = '2'
		}
	}
	b = signs.ReplaceAllFunc(b, func(x []byte) []byte {
		if strings.Contains(string(x), "1") {
			return []byte(strings.Repeat("1", len(x)))
		}
		return x
	})
	b = []byte(strings.NewReplacer("+", "?", "#", "?", ",", "?").Replace(string(b)))
	behindStrong('L', 'L')
	return b[1:]
}

// sides is a text's sides alone.
func sides(s string) string {
	return strings.Map(func(r rune) rune {
		switch r {
		case 'L', 'R':
			return r
		case '1', '2':
			return 'R'
		}
		return -1
	}, s)
}

// pairs is where brackets that open at some places are closed.
func pairs(b []byte, marks string) map[int]int {
	all := map[int]int{}
	var open []int
	for i := range b {
		kind := strings.IndexByte(marked, marks[i])
		switch {
		case b[i] != '?' || kind < 0:
		case kind%2 == 1:
			for k := len(open) - 1; k >= 0; k-- {
				if marks[open[k]] == marked[kind-1] {
					all[open[k]] = i
					open = open[:k]
					break
				}
			}
		case len(open) == 63:
			return all
		default:
			open = append(open, i)
		}
	}
	return all
}

// readPairs makes brackets what they become.
func readPairs(b []byte, came, marks string, level int, first string) {
	own := "LR"[level%2:][:1]
	all := pairs(b, marks)
	for i := range b {
		end, is := all[i]
		if !is {
			continue
		}
		in, to := sides(string(b[i+1:end])), sides(first+string(b[:i]))
		switch {
		case strings.Contains(in, own):
			to = own
		case in == "":
			continue
		}
		for _, k := range []int{i, end} {
			b[k] = to[len(to)-1]
			for m := k + 1; m < len(b) && came[m] == '\''; m++ {
				b[m] = b[k]
			}
		}
	}
}

// readNeutral is a sequence behind what goes with what stands about it.
func readNeutral(s string, level int, first, last string) string {
	b := []byte(s)
	for i := range s {
		if strings.IndexByte("$s_?([{)", s[i]) < 0 {
			continue
		}
		left, right := sides(first+s[:i]), sides(s[i+1:]+last)
		b[i] = left[len(left)-1]
		if b[i] != right[0] {
			b[i] = "LR"[level%2]
		}
	}
	return string(b)
}

// onLine is what has the base, at a place of a line.
var onLine = regexp.MustCompile(`^([$s]|[_(\[{)0eoEO.]+([$s]|$))`)

// readLine is the levels of a line.
func readLine(s string, levels []int, base int) []int {
	var l []int
	for i := range s {
		gone := strings.IndexByte(removed, s[i]) >= 0
		switch {
		case onLine.MatchString(s[i:]), gone && i == 0:
			l = append(l, base)
		case gone:
			l = append(l, l[i-1])
		default:
			l = append(l, levels[i])
		}
	}
	return l
}
