package upright_test

import (
	"math"
	"slices"
	"testing"

	"frisket/api"
	"frisket/upright"
)

// both is that a thing is not so, and that it is.
var both = []bool{false, true}

// The numbers that are of a kind.
var (
	stands   = []api.Stand{api.Turned, api.Upright, api.Other, api.Sideways}
	policies = []api.Policy{api.Mixed, api.AllUp, api.AllSide}
	modes    = []api.Mode{api.Rows, api.ColumnsRight, api.ColumnsLeft, api.Ox}
	ways     = []int{upright.AsIs, upright.OnSide, upright.ByForm}
)

// The modes, by how lines lie.
var (
	inRows    = []api.Mode{api.Rows, api.Ox}
	inColumns = []api.Mode{api.ColumnsRight, api.ColumnsLeft}
)

// strange is numbers below the least one of each kind, and numbers above the greatest one of each: the next ones, great ones, and those of which some bits are one of the kind.
var strange = []int{
	math.MinInt, math.MinInt + 1, math.MinInt + 2, math.MinInt + 3, -1<<32 - 1, -1 << 32, -1<<32 + 1, -1<<32 + 2, math.MinInt32, math.MinInt32 + 1, -1 << 16, -1<<16 + 1, -257, -256, -255, -254, -253, -129, -128, -127, -126, -65, -64, -63, -5, -4, -3, -2, -1,
	4, 5, 6, 7, 8, 9, 10, 16, 17, 99, 127, 128, 129, 130, 255, 256, 257, 258, 259, 1 << 15, 1<<15 + 1, 1<<16 - 1, 1 << 16, 1<<16 + 1, 1<<16 + 2, 1<<16 + 3, 0x10FFFF, math.MaxInt32 - 1, math.MaxInt32, math.MaxInt32 + 1, math.MaxUint32, 1 << 32, 1<<32 + 1, 1<<32 + 2, 1<<32 + 3, math.MaxInt - 3, math.MaxInt - 2, math.MaxInt - 1, math.MaxInt,
}

// The numbers that are of no kind: 3 is a stand, and a mode, but no policy, and no way.
var (
	noStands   = as[api.Stand](strange)
	noModes    = as[api.Mode](strange)
	noPolicies = as[api.Policy](append(slices.Clone(strange), 3))
	noWays     = append(slices.Clone(strange), 3)
)

// as is numbers, as those of a kind.
func as[K ~int](l []int) []K {
	var all []K
	for _, n := range l {
		all = append(all, K(n))
	}
	return all
}

// sizes is numbers of cells, and what each one counts as, written out.
var sizes = []struct{ size, counts int }{
	{math.MinInt, 1}, {math.MinInt + 1, 1}, {math.MinInt + 64, 1}, {-1<<63 + 65, 1}, {-1<<32 - 1, 1}, {-1 << 32, 1}, {-1<<32 + 2, 1}, {math.MinInt32, 1}, {-256, 1}, {-255, 1}, {-192, 1}, {-128, 1}, {-127, 1}, {-65, 1}, {-64, 1}, {-63, 1}, {-32, 1}, {-3, 1}, {-2, 1}, {-1, 1},
	{0, 1}, {1, 1}, {2, 2}, {3, 3}, {4, 4}, {5, 5}, {7, 7}, {8, 8}, {15, 15}, {16, 16}, {17, 17}, {31, 31}, {32, 32}, {33, 33}, {40, 40}, {59, 59}, {60, 60}, {61, 61}, {62, 62}, {63, 63}, {64, 64},
	{65, 64}, {66, 64}, {67, 64}, {99, 64}, {126, 64}, {127, 64}, {128, 64}, {129, 64}, {255, 64}, {256, 64}, {257, 64}, {258, 64}, {320, 64}, {1<<16 + 1, 64}, {math.MaxInt32, 64}, {math.MaxInt32 + 1, 64}, {math.MaxUint32, 64}, {1 << 32, 64}, {1<<32 + 1, 64}, {1<<32 + 63, 64}, {1 << 62, 64}, {1<<62 + 1, 64}, {math.MaxInt - 1, 64}, {math.MaxInt, 64},
}

// hold holds how a cluster stands, and how far it reaches.
func hold(t *testing.T, c upright.Cluster, p api.Policy, m api.Mode, way, reach int) {
	t.Helper()
	if got := upright.Way(c, p, m); got != way {
		t.Fatalf("way of %+v, policy %d, mode %d: %d, want %d", c, p, m, got, way)
	}
	if got := upright.Reach(c, p, m); got != reach {
		t.Fatalf("reach of %+v, policy %d, mode %d: %d, want %d", c, p, m, got, reach)
	}
}

// readWay is how a cluster stands, by the words of the chapter, each number that counts as another one replaced by that ahead.
func readWay(c upright.Cluster, p api.Policy, m api.Mode) int {
	if !slices.Contains(stands, c.Stand) {
		c.Stand = api.Turned
	}
	if !slices.Contains(policies, p) {
		p = api.Mixed
	}
	if !slices.Contains(modes, m) {
		m = api.Rows
	}
	if slices.Contains(inRows, m) {
		return 0
	}
	alone := [4]int{1, 0, 2, 1}
	if c.Form {
		alone[api.Sideways] = 2
	}
	return [3]int{alone[c.Stand], 0, 1}[p]
}

// readReach is how far a cluster reaches, by the words of the chapter, its size told by what it counts as.
func readReach(c upright.Cluster, p api.Policy, m api.Mode, counts int) int {
	once := slices.Contains(inColumns, m) && readWay(c, p, m) != 1
	if !c.Wide || once {
		return counts
	}
	return counts + counts
}

// eachCluster hands out clusters of each stand, and of numbers that are none, with another form and without, wide and not, each of one cell.
func eachCluster(do func(upright.Cluster)) {
	for _, s := range slices.Concat(stands, noStands) {
		for _, form := range both {
			for _, wide := range both {
				do(upright.Cluster{Stand: s, Form: form, Wide: wide, Size: 1})
			}
		}
	}
}

// eachPlace hands out each policy and each mode, and numbers that are none.
func eachPlace(do func(api.Policy, api.Mode)) {
	for _, p := range slices.Concat(policies, noPolicies) {
		for _, m := range slices.Concat(modes, noModes) {
			do(p, m)
		}
	}
}

// P15.1: the numbers of the ways, and those of the kinds.
func TestNumbers(t *testing.T) {
	if !slices.Equal(ways, []int{0, 1, 2}) {
		t.Error(ways)
	}
	if !slices.Equal(stands, as[api.Stand]([]int{0, 1, 2, 3})) || !slices.Equal(policies, as[api.Policy]([]int{0, 1, 2})) || !slices.Equal(modes, as[api.Mode]([]int{0, 1, 2, 3})) {
		t.Error(stands, policies, modes)
	}
	if api.MaxCells != 64 {
		t.Error(api.MaxCells)
	}
}

// P15.1: each stand under each policy in each mode, with another form and without, wide and not, written out: the stands in the order of their numbers, four without another form and four with one.
func TestAll(t *testing.T) {
	for _, x := range []struct {
		policy              api.Policy
		modes               []api.Mode
		ways, narrow, broad string
	}{
		{api.Mixed, inColumns, "1021" + "1022", "1111" + "1111", "2112" + "2111"},
		{api.AllUp, inColumns, "0000" + "0000", "1111" + "1111", "1111" + "1111"},
		{api.AllSide, inColumns, "1111" + "1111", "1111" + "1111", "2222" + "2222"},
		{api.Mixed, inRows, "0000" + "0000", "1111" + "1111", "2222" + "2222"},
		{api.AllUp, inRows, "0000" + "0000", "1111" + "1111", "2222" + "2222"},
		{api.AllSide, inRows, "0000" + "0000", "1111" + "1111", "2222" + "2222"},
	} {
		for _, m := range x.modes {
			for i := range x.ways {
				c := upright.Cluster{Stand: stands[i%4], Form: i >= 4, Size: 1}
				hold(t, c, x.policy, m, int(x.ways[i]-'0'), int(x.narrow[i]-'0'))
				c.Wide = true
				hold(t, c, x.policy, m, int(x.ways[i]-'0'), int(x.broad[i]-'0'))
			}
		}
	}
}

// P15.1: of all stands one hangs on whether there is another form: Sideways, under Mixed, in columns.
func TestForm(t *testing.T) {
	for _, m := range inColumns {
		for _, wide := range both {
			c := upright.Cluster{Stand: api.Sideways, Wide: wide, Size: 3}
			lain := 3
			if wide {
				lain = 6
			}
			hold(t, c, api.Mixed, m, upright.OnSide, lain)
			c.Form = true
			hold(t, c, api.Mixed, m, upright.ByForm, 3)
		}
	}
	eachPlace(func(p api.Policy, m api.Mode) {
		eachCluster(func(c upright.Cluster) {
			hangs := c.Stand == api.Sideways && p != api.AllUp && p != api.AllSide && upright.Columns(m)
			other := c
			other.Form = !c.Form
			if differ := upright.Way(c, p, m) != upright.Way(other, p, m); differ != hangs {
				t.Fatalf("%+v, policy %d, mode %d: ways differ by the form: %v", c, p, m, differ)
			}
			if differ := upright.Reach(c, p, m) != upright.Reach(other, p, m); differ != (hangs && c.Wide) {
				t.Fatalf("%+v, policy %d, mode %d: reaches differ by the form: %v", c, p, m, differ)
			}
		})
	})
}

// P15.1: numbers that are no stand count as Turned, under each policy in each mode.
func TestNoStand(t *testing.T) {
	for _, s := range noStands {
		for _, m := range inColumns {
			for _, form := range both {
				hold(t, upright.Cluster{Stand: s, Form: form, Wide: true, Size: 5}, api.Mixed, m, upright.OnSide, 10)
				hold(t, upright.Cluster{Stand: s, Form: form, Wide: true, Size: 5}, api.AllUp, m, upright.AsIs, 5)
				hold(t, upright.Cluster{Stand: s, Form: form, Wide: true, Size: 5}, api.AllSide, m, upright.OnSide, 10)
				hold(t, upright.Cluster{Stand: s, Form: form, Size: 5}, api.Mixed, m, upright.OnSide, 5)
			}
		}
		eachPlace(func(p api.Policy, m api.Mode) {
			for _, form := range both {
				for _, wide := range both {
					c := upright.Cluster{Stand: s, Form: form, Wide: wide, Size: 7}
					turned := c
					turned.Stand = api.Turned
					hold(t, c, p, m, upright.Way(turned, p, m), upright.Reach(turned, p, m))
				}
			}
		})
	}
}

// P15.1: numbers that are no policy count as Mixed, of each stand in each mode.
func TestNoPolicy(t *testing.T) {
	for _, p := range noPolicies {
		for _, m := range inColumns {
			hold(t, upright.Cluster{Stand: api.Turned, Wide: true, Size: 5}, p, m, upright.OnSide, 10)
			hold(t, upright.Cluster{Stand: api.Upright, Wide: true, Size: 5}, p, m, upright.AsIs, 5)
			hold(t, upright.Cluster{Stand: api.Other, Wide: true, Size: 5}, p, m, upright.ByForm, 5)
			hold(t, upright.Cluster{Stand: api.Sideways, Wide: true, Size: 5}, p, m, upright.OnSide, 10)
			hold(t, upright.Cluster{Stand: api.Sideways, Form: true, Wide: true, Size: 5}, p, m, upright.ByForm, 5)
		}
		for _, m := range slices.Concat(modes, noModes) {
			eachCluster(func(c upright.Cluster) {
				hold(t, c, p, m, upright.Way(c, api.Mixed, m), upright.Reach(c, api.Mixed, m))
			})
		}
	}
}

// P15.1: numbers that are no mode count as Rows, of each stand under each policy.
func TestNoMode(t *testing.T) {
	for _, m := range noModes {
		hold(t, upright.Cluster{Stand: api.Turned, Wide: true, Size: 5}, api.Mixed, m, upright.AsIs, 10)
		hold(t, upright.Cluster{Stand: api.Other, Wide: true, Size: 5}, api.Mixed, m, upright.AsIs, 10)
		hold(t, upright.Cluster{Stand: api.Sideways, Form: true, Wide: true, Size: 5}, api.AllUp, m, upright.AsIs, 10)
		hold(t, upright.Cluster{Stand: api.Upright, Size: 5}, api.AllSide, m, upright.AsIs, 5)
		for _, p := range slices.Concat(policies, noPolicies) {
			eachCluster(func(c upright.Cluster) {
				hold(t, c, p, m, upright.Way(c, p, api.Rows), upright.Reach(c, p, api.Rows))
			})
		}
	}
}

// P15.1: numbers that are none of their kinds, all at once.
func TestNothingOfItsKind(t *testing.T) {
	for _, n := range strange {
		c := upright.Cluster{Stand: api.Stand(n), Wide: true, Size: 2}
		hold(t, c, api.Policy(n), api.Mode(n), upright.AsIs, 4)
		hold(t, c, api.Policy(n), api.ColumnsLeft, upright.OnSide, 4)
		hold(t, c, api.AllUp, api.Mode(n), upright.AsIs, 4)
	}
}

// P15.1: sizes, each wide and not, as it is, on its side and by another form, in rows and in columns.
func TestSizes(t *testing.T) {
	for _, x := range sizes {
		n, twice := x.counts, 2*x.counts
		for _, m := range inColumns {
			for _, stand := range []struct {
				of         api.Stand
				way, broad int
			}{{api.Upright, upright.AsIs, n}, {api.Other, upright.ByForm, n}, {api.Turned, upright.OnSide, twice}, {api.Sideways, upright.OnSide, twice}} {
				hold(t, upright.Cluster{Stand: stand.of, Size: x.size}, api.Mixed, m, stand.way, n)
				hold(t, upright.Cluster{Stand: stand.of, Wide: true, Size: x.size}, api.Mixed, m, stand.way, stand.broad)
			}
		}
		for _, m := range slices.Concat(inRows, noModes) {
			hold(t, upright.Cluster{Stand: api.Upright, Size: x.size}, api.Mixed, m, upright.AsIs, n)
			hold(t, upright.Cluster{Stand: api.Upright, Wide: true, Size: x.size}, api.Mixed, m, upright.AsIs, twice)
		}
	}
}

// P15.1: a size is told ahead of doubling it: what is wide reaches up to 128 cells, and never an odd number of them.
func TestMost(t *testing.T) {
	for size := -200; size <= 400; size++ {
		counts := 1
		for n := 2; n <= 64 && n <= size; n++ {
			counts = n
		}
		hold(t, upright.Cluster{Size: size}, api.AllUp, api.ColumnsLeft, upright.AsIs, counts)
		hold(t, upright.Cluster{Wide: true, Size: size}, api.AllUp, api.ColumnsLeft, upright.AsIs, counts)
		hold(t, upright.Cluster{Wide: true, Size: size}, api.AllSide, api.ColumnsRight, upright.OnSide, 2*counts)
		hold(t, upright.Cluster{Wide: true, Size: size}, api.AllSide, api.Ox, upright.AsIs, 2*counts)
	}
}

// P15.1: a cluster of which nothing is told counts as Turned, narrow, of one cell.
func TestZero(t *testing.T) {
	for _, m := range modes {
		way := upright.AsIs
		if upright.Columns(m) {
			way = upright.OnSide
		}
		hold(t, upright.Cluster{}, api.Mixed, m, way, 1)
		hold(t, upright.Cluster{}, api.AllUp, m, upright.AsIs, 1)
		hold(t, upright.Cluster{}, api.AllSide, m, way, 1)
	}
}

// P15.1: all of it, with numbers of no kind among the others, and all sizes, against a reading of the chapter.
func TestRead(t *testing.T) {
	eachPlace(func(p api.Policy, m api.Mode) {
		eachCluster(func(c upright.Cluster) {
			way := readWay(c, p, m)
			for _, x := range sizes {
				c.Size = x.size
				if w, r := upright.Way(c, p, m), upright.Reach(c, p, m); w != way || r != readReach(c, p, m, x.counts) {
					t.Fatalf("%+v, policy %d, mode %d: %d, %d", c, p, m, w, r)
				}
			}
		})
	})
}

// P15.1: modes of columns, and others, and numbers that are none.
func TestColumns(t *testing.T) {
	if upright.Columns(api.Rows) || !upright.Columns(api.ColumnsRight) || !upright.Columns(api.ColumnsLeft) || upright.Columns(api.Ox) {
		t.Error(upright.Columns(api.Rows), upright.Columns(api.ColumnsRight), upright.Columns(api.ColumnsLeft), upright.Columns(api.Ox))
	}
	for _, m := range noModes {
		if upright.Columns(m) {
			t.Error(m)
		}
	}
	for m := api.Mode(-70000); m <= 70000; m++ {
		if upright.Columns(m) != (m == 1 || m == 2) {
			t.Error(m)
		}
	}
}

// P15.2: in columns a cluster reaches as far as in rows just if it is on its side, or not wide.
func TestOneOrTheOther(t *testing.T) {
	for _, p := range slices.Concat(policies, noPolicies) {
		eachCluster(func(c upright.Cluster) {
			for _, x := range sizes {
				c.Size = x.size
				for _, m := range inColumns {
					just := upright.Way(c, p, m) == upright.OnSide || !c.Wide
					for _, rows := range slices.Concat(inRows, noModes) {
						if same := upright.Reach(c, p, m) == upright.Reach(c, p, rows); same != just {
							t.Fatalf("%+v, policy %d, modes %d and %d: as far %v, on its side or not wide %v", c, p, m, rows, same, just)
						}
					}
				}
			}
		})
	}
}

// P15.2: both modes of columns make one of a cluster, and so do both of rows.
func TestSidesOfAPage(t *testing.T) {
	for _, p := range slices.Concat(policies, noPolicies) {
		eachCluster(func(c upright.Cluster) {
			for _, x := range sizes {
				c.Size = x.size
				hold(t, c, p, api.ColumnsLeft, upright.Way(c, p, api.ColumnsRight), upright.Reach(c, p, api.ColumnsRight))
				hold(t, c, p, api.Ox, upright.Way(c, p, api.Rows), upright.Reach(c, p, api.Rows))
			}
		})
	}
}

// holdRuns holds the stretches of ways, and that what is handed in is not written into.
func holdRuns(t *testing.T, ways []int, want [][3]int) {
	t.Helper()
	kept := slices.Clone(ways)
	if got := upright.Runs(ways); !slices.Equal(got, want) {
		t.Fatalf("runs of %v: %v, want %v", kept, got, want)
	}
	if !slices.Equal(ways, kept) {
		t.Fatalf("runs of %v: it is written into: %v", kept, ways)
	}
}

// readRuns is the stretches of ways, by their ends: a way that is another one than that ahead of it begins a stretch, one that is another one than that behind it ends one.
func readRuns(ways []int) [][3]int {
	var begins, ends []int
	for i := range ways {
		if i == 0 || ways[i-1] != ways[i] {
			begins = append(begins, i)
		}
		if i+1 == len(ways) || ways[i+1] != ways[i] {
			ends = append(ends, i+1)
		}
	}
	var runs [][3]int
	for k := range begins {
		runs = append(runs, [3]int{begins[k], ends[k], ways[begins[k]]})
	}
	return runs
}

// each hands out all lists of some numbers, up to a length.
func each(of []int, longest int, do func([]int)) {
	var grow func(l []int)
	grow = func(l []int) {
		do(slices.Clone(l))
		if len(l) == longest {
			return
		}
		for _, n := range of {
			grow(append(l, n))
		}
	}
	grow(make([]int, 0, longest))
}

// row is a number, several times over.
func row(n, way int) []int {
	return slices.Repeat([]int{way}, n)
}

// mixed is a long list that a rule of its own mixes.
func mixed(of []int, n, at int) []int {
	l := make([]int, n)
	for i := range l {
		at = at * 75 % 65537
		l[i] = of[at%len(of)]
	}
	return l
}

// P15.1: no ways, and nil.
func TestNoWays(t *testing.T) {
	holdRuns(t, nil, nil)
	holdRuns(t, []int{}, nil)
	holdRuns(t, []int{1, 1, 2}[:0], nil)
}

// P15.1: stretches of ways, written out.
func TestRuns(t *testing.T) {
	for _, x := range []struct {
		ways []int
		want [][3]int
	}{
		// One way.
		{[]int{0}, [][3]int{{0, 1, 0}}},
		{[]int{1}, [][3]int{{0, 1, 1}}},
		{[]int{2}, [][3]int{{0, 1, 2}}},
		// Ways that are all one.
		{[]int{0, 0}, [][3]int{{0, 2, 0}}},
		{[]int{1, 1, 1}, [][3]int{{0, 3, 1}}},
		{[]int{2, 2, 2, 2}, [][3]int{{0, 4, 2}}},
		// Ways that all differ from those beside them.
		{[]int{0, 1}, [][3]int{{0, 1, 0}, {1, 2, 1}}},
		{[]int{2, 1, 0}, [][3]int{{0, 1, 2}, {1, 2, 1}, {2, 3, 0}}},
		{[]int{0, 2, 0, 2}, [][3]int{{0, 1, 0}, {1, 2, 2}, {2, 3, 0}, {3, 4, 2}}},
		// A stretch at the beginning, in the middle and at the end.
		{[]int{1, 1, 1, 0, 2}, [][3]int{{0, 3, 1}, {3, 4, 0}, {4, 5, 2}}},
		{[]int{0, 1, 1, 1, 2}, [][3]int{{0, 1, 0}, {1, 4, 1}, {4, 5, 2}}},
		{[]int{0, 2, 1, 1, 1}, [][3]int{{0, 1, 0}, {1, 2, 2}, {2, 5, 1}}},
		{[]int{2, 2, 0, 1, 1}, [][3]int{{0, 2, 2}, {2, 3, 0}, {3, 5, 1}}},
		{[]int{0, 0, 1, 1, 2, 2}, [][3]int{{0, 2, 0}, {2, 4, 1}, {4, 6, 2}}},
		// The same way again, behind another one.
		{[]int{1, 0, 1}, [][3]int{{0, 1, 1}, {1, 2, 0}, {2, 3, 1}}},
		{[]int{1, 1, 0, 1, 1}, [][3]int{{0, 2, 1}, {2, 3, 0}, {3, 5, 1}}},
		{[]int{0, 0, 2, 0, 2, 2, 0}, [][3]int{{0, 2, 0}, {2, 3, 2}, {3, 4, 0}, {4, 6, 2}, {6, 7, 0}}},
		// Numbers that are no way stay what they are.
		{[]int{-1, -1, 0}, [][3]int{{0, 2, -1}, {2, 3, 0}}},
		{[]int{3, 3, 2, 4}, [][3]int{{0, 2, 3}, {2, 3, 2}, {3, 4, 4}}},
		{[]int{256, 0, 1 << 32, 1, 257}, [][3]int{{0, 1, 256}, {1, 2, 0}, {2, 3, 1 << 32}, {3, 4, 1}, {4, 5, 257}}},
		{[]int{math.MinInt, math.MaxInt, math.MaxInt, -1}, [][3]int{{0, 1, math.MinInt}, {1, 3, math.MaxInt}, {3, 4, -1}}},
	} {
		holdRuns(t, x.ways, x.want)
	}
}

// P15.1: one way, two that are one, and each beside each, of all numbers.
func TestAllBeside(t *testing.T) {
	all := slices.Concat(ways, noWays)
	for _, one := range all {
		holdRuns(t, []int{one}, [][3]int{{0, 1, one}})
		holdRuns(t, []int{one, one}, [][3]int{{0, 2, one}})
		for _, two := range all {
			if one != two {
				holdRuns(t, []int{one, two}, [][3]int{{0, 1, one}, {1, 2, two}})
				holdRuns(t, []int{one, two, one}, [][3]int{{0, 1, one}, {1, 2, two}, {2, 3, one}})
				holdRuns(t, []int{two, one, one, two}, [][3]int{{0, 1, two}, {1, 3, one}, {3, 4, two}})
			}
		}
	}
}

// P15.1: a stretch of each length among others, at each place of a list.
func TestStretches(t *testing.T) {
	for n := 1; n < 40; n++ {
		for from := range n {
			for to := from + 1; to <= n; to++ {
				var want [][3]int
				if from > 0 {
					want = append(want, [3]int{0, from, 1})
				}
				want = append(want, [3]int{from, to, 2})
				if to < n {
					want = append(want, [3]int{to, n, 1})
				}
				holdRuns(t, slices.Concat(row(from, 1), row(to-from, 2), row(n-to, 1)), want)
			}
		}
	}
}

// P15.1: all short lists of ways, and of numbers that are none, against a reading by ends.
func TestAllShort(t *testing.T) {
	same := func(l []int) { holdRuns(t, l, readRuns(l)) }
	each(ways, 9, same)
	each([]int{-1, 0, 1, 2, 3}, 6, same)
	each([]int{math.MinInt, 1, math.MaxInt}, 7, same)
	for at := range 20 {
		same(mixed(ways, 17*at, at+1))
		same(mixed([]int{0, 0, 0, 0, 1}, 31*at, at+1))
		same(mixed(noWays, 31*at, at+1))
	}
}

// P15.1: each way is in one stretch, the stretches follow one another, and no two that are beside one another are of one way.
func TestEachInOne(t *testing.T) {
	check := func(l []int) {
		at := 0
		for k, x := range upright.Runs(l) {
			if x[0] != at || x[1] <= x[0] || x[1] > len(l) || k > 0 && l[x[0]-1] == x[2] {
				t.Fatalf("%v: stretch %v behind %d", l, x, at)
			}
			for ; at < x[1]; at++ {
				if l[at] != x[2] {
					t.Fatalf("%v: stretch %v has %d", l, x, l[at])
				}
			}
		}
		if at != len(l) {
			t.Fatalf("%v: stretches end at %d", l, at)
		}
	}
	each([]int{0, 1, 2, 7}, 6, check)
	for at := range 20 {
		check(mixed(ways, 200+at, at+1))
	}
}

// P15.1, P1: long lists, gone through at once.
func TestLong(t *testing.T) {
	const n = 1 << 20
	holdRuns(t, row(n, 1), [][3]int{{0, n, 1}})
	holdRuns(t, slices.Concat(row(n, 2), row(n, 0), row(n, 2)), [][3]int{{0, n, 2}, {n, 2 * n, 0}, {2 * n, 3 * n, 2}})
	holdRuns(t, append(row(n, 1), 0), [][3]int{{0, n, 1}, {n, n + 1, 0}})
	holdRuns(t, append([]int{0}, row(n, 1)...), [][3]int{{0, 1, 0}, {1, n + 1, 1}})
	differ := slices.Repeat([]int{0, 1, 2}, n/2)
	runs := upright.Runs(differ)
	if len(runs) != len(differ) {
		t.Fatal(len(runs))
	}
	for i, x := range runs {
		if x != [3]int{i, i + 1, i % 3} {
			t.Fatal(i, x)
		}
	}
	for _, l := range [][]int{mixed(ways, n, 3), mixed(noWays, n, 4), slices.Repeat([]int{5, 5, 5, 1}, n/2)} {
		holdRuns(t, l, readRuns(l))
	}
}

// P2: what is handed in is not written into; what lies behind its length is neither read nor written.
func TestGivenStays(t *testing.T) {
	whole := []int{2, 2, 0, 1, 1, 1, 0, 0, 2, 1, 1}
	for cut := range len(whole) + 1 {
		want := readRuns(whole[:cut])
		for _, behind := range [][]int{nil, {0}, {1}, {2}, {1, 1, 1}, {-1}, whole, row(50, 2), row(50, -7)} {
			more := append(slices.Clone(whole[:cut]), behind...)
			kept := slices.Clone(more)
			holdRuns(t, more[:cut], want)
			if !slices.Equal(more, kept) {
				t.Fatalf("%v, behind it %v: what is handed in is written into", whole[:cut], behind)
			}
		}
	}
}

// P2: what is answered shares no memory with what was handed in, or with another answer.
func TestNewMemory(t *testing.T) {
	for _, l := range [][]int{{}, {1}, {0, 1, 2}, row(20, 1), {2, 2, 0, 1, 1}, mixed(ways, 500, 9)} {
		given, want := slices.Clone(l), readRuns(l)
		one, two := upright.Runs(given), upright.Runs(given)
		for i := range one[:cap(one)] {
			one[:cap(one)][i] = [3]int{-7, -7, -7}
		}
		if !slices.Equal(given, l) || !slices.Equal(two, want) {
			t.Fatalf("%v: memory is shared", l)
		}
		for i := range given {
			given[i] = -9
		}
		if !slices.Equal(two, want) {
			t.Fatalf("%v: what is answered changes with what was handed in", l)
		}
		holdRuns(t, l, want)
	}
}

// P2: ways that are changed between two calls are read afresh; calls behind others answer as if there had been none.
func TestChanged(t *testing.T) {
	l := []int{1, 1, 0}
	first := upright.Runs(l)
	l[1] = 0
	holdRuns(t, l, [][3]int{{0, 1, 1}, {1, 3, 0}})
	l[0], l[2] = 2, 2
	holdRuns(t, l, [][3]int{{0, 1, 2}, {1, 2, 0}, {2, 3, 2}})
	holdRuns(t, l[1:], [][3]int{{0, 1, 0}, {1, 2, 2}})
	if !slices.Equal(first, [][3]int{{0, 2, 1}, {2, 3, 0}}) {
		t.Error(first)
	}
	c := upright.Cluster{Stand: api.Sideways, Wide: true, Size: 4}
	for range 3 {
		hold(t, c, api.Mixed, api.ColumnsLeft, upright.OnSide, 8)
		hold(t, c, api.Mixed, api.Rows, upright.AsIs, 8)
		hold(t, c, api.AllUp, api.ColumnsLeft, upright.AsIs, 4)
		other := c
		other.Form = true
		hold(t, other, api.Mixed, api.ColumnsLeft, upright.ByForm, 4)
		holdRuns(t, nil, nil)
	}
}
