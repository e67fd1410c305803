package disc

import (
	"math"
	"math/big"
	"math/rand"
	"slices"
	"testing"

	"hourglass/api"
)

const (
	top  = 36028797018963967 // MaxTime, in digits
	most = 1099511627776     // MaxOffset, in digits
)

func made(t *testing.T, node uint8, high int64) *Clock {
	t.Helper()
	c, err := New(node, high)
	if c == nil || err != api.OK {
		t.Fatalf("New(%d, %d): %v, %v", node, high, c, err)
	}
	return c
}

// is fails, unless High and Offset are as told.
func is(t *testing.T, what string, c *Clock, high, offset int64) {
	t.Helper()
	if c.High() != high || c.Offset() != offset {
		t.Errorf("%s: High %d, Offset %d; want %d, %d", what, c.High(), c.Offset(), high, offset)
	}
}

// raws are at each edge that a raw time has, with every offset.
func raws() []int64 {
	var l []int64
	for _, edge := range []int64{0, most, 2 * most, top, top + most, top - most, top + 2*most, math.MaxInt64 - most - 1} {
		for d := int64(-2); d <= 2; d++ {
			l = append(l, edge+d, -edge+d)
		}
	}
	for i := range 63 {
		l = append(l, 1<<i, -1<<i)
	}
	return append(l, math.MinInt64, math.MinInt64+1, math.MaxInt64-1, math.MaxInt64)
}

// offsets are all kinds that a clock may have.
func offsets() []int64 {
	return []int64{-most, -most + 1, -500, -1, 0, 1, 500, most - 1, most}
}

// highs are all kinds that a clock may have.
func highs() []int64 { return []int64{-1, 0, 1, 1000, top / 2, top - 1, top} }

// time is what Read is asked for, by numbers without a bound.
func time(raw, offset, high int64) int64 {
	n := new(big.Int).Add(big.NewInt(raw), big.NewInt(offset))
	if n.Sign() < 0 {
		n.SetInt64(0)
	}
	if n.Cmp(big.NewInt(top)) > 0 {
		n.SetInt64(top)
	}
	if n.Cmp(big.NewInt(high)) < 0 {
		n.SetInt64(high)
	}
	return n.Int64()
}

// middle is what Sample is asked for: the least one that has half of them, or
// more, not above it.
func middle(l []int64) int64 {
	best := int64(math.MaxInt64)
	for _, x := range l {
		below := 0
		for _, y := range l {
			if y <= x {
				below++
			}
		}
		if 2*below >= len(l) && x < best {
			best = x
		}
	}
	return min(max(best, -most), most)
}

// orders calls f with each order of the list.
func orders(l []int64, f func([]int64)) {
	var walk func(n int)
	walk = func(n int) {
		if n == len(l) {
			f(l)
			return
		}
		for i := n; i < len(l); i++ {
			l[n], l[i] = l[i], l[n]
			walk(n + 1)
			l[n], l[i] = l[i], l[n]
		}
	}
	walk(0)
}

// The limits are as the tests take them.
func TestLimits(t *testing.T) {
	if api.MaxTime != top || api.MaxOffset != most {
		t.Fatalf("MaxTime is %d, MaxOffset %d", int64(api.MaxTime), int64(api.MaxOffset))
	}
}

// P7.1: New takes a High from -1 to MaxTime, and every node; Offset is 0.
func TestNew(t *testing.T) {
	for _, node := range []uint8{0, 1, 7, 8, 255} {
		for _, high := range highs() {
			is(t, "New", made(t, node, high), high, 0)
		}
		for _, high := range []int64{-2, -3, -top, top + 1, top + 2, 2 * top, math.MinInt64, math.MinInt64 + 1, math.MaxInt64} {
			if c, err := New(node, high); c != nil || err != api.EARG {
				t.Errorf("New(%d, %d): %v, %v", node, high, c, err)
			}
		}
	}
}

// P7.1: two clocks have nothing in common.
func TestTwoClocks(t *testing.T) {
	a, b := made(t, 1, 5), made(t, 1, 5)
	a.Sample([]int64{9})
	a.Issue(100)
	is(t, "the first", a, 109, 9)
	is(t, "the second", b, 5, 0)
}

// P7.1: Offset is the middle one, of an even number the lower of both.
func TestSample(t *testing.T) {
	for _, x := range []struct {
		l    []int64
		want int64
	}{
		{[]int64{0}, 0}, {[]int64{7}, 7}, {[]int64{-7}, -7},
		{[]int64{3, 1}, 1}, {[]int64{-3, -1}, -3}, {[]int64{4, 4}, 4},
		{[]int64{9, -4, 5}, 5}, {[]int64{1, 1, 2}, 1}, {[]int64{2, 1, 2}, 2},
		{[]int64{4, 3, 2, 1}, 2}, {[]int64{1, 2, 2, 3}, 2}, {[]int64{1, 1, 2, 2}, 1},
		{[]int64{5, 4, 3, 2, 1}, 3}, {[]int64{60, 50, 40, 30, 20, 10}, 30},
		{[]int64{most}, most}, {[]int64{-most}, -most},
		{[]int64{most + 1}, most}, {[]int64{-most - 1}, -most},
		{[]int64{most - 1}, most - 1}, {[]int64{-most + 1}, -most + 1},
		{[]int64{math.MaxInt64}, most}, {[]int64{math.MinInt64}, -most},
		{[]int64{math.MaxInt64, math.MinInt64}, -most},
		{[]int64{math.MaxInt64, math.MinInt64, 8}, 8},
		{[]int64{math.MaxInt64, most + 1, most}, most},
		{[]int64{math.MinInt64, -most - 1, -most, 3}, -most},
	} {
		orders(x.l, func(l []int64) {
			c := made(t, 0, 17)
			if got := c.Sample(l); got != x.want {
				t.Errorf("Sample(%v): %d; want %d", l, got, x.want)
			}
			is(t, "Sample", c, 17, x.want)
		})
	}
}

// untouched fails, unless a sample of none or of too many leaves the offset.
func untouched(t *testing.T, c *Clock, offset int64) {
	t.Helper()
	for _, l := range [][]int64{nil, {}, make([]int64, 0, 9), make([]int64, 65), make([]int64, 66), make([]int64, 100000)} {
		for i := range l {
			l[i] = 12345
		}
		if got := c.Sample(l); got != offset {
			t.Errorf("Sample of %d: %d; want %d", len(l), got, offset)
		}
		is(t, "a sample that is not taken", c, -1, offset)
	}
}

// P7.1: of none, or of more than 64, nothing changes.
func TestSampleOfNoneAndTooMany(t *testing.T) {
	for _, offset := range offsets() {
		c := made(t, 0, -1)
		untouched(t, c, 0)
		c.Sample([]int64{offset})
		untouched(t, c, offset)
	}
}

// P7.1: Sample of each number from 1 to 64, as counted by another rule.
func TestSampleOfMany(t *testing.T) {
	r := rand.New(rand.NewSource(7))
	wide := func() int64 { return int64(r.Uint64()) }
	near := func() int64 { return int64(r.Intn(9)) - 4 }
	edge := func() int64 { return [2]int64{most, -most}[r.Intn(2)] + near() }
	c := made(t, 0, 3)
	for n := 1; n <= 64; n++ {
		for range 30 {
			for _, f := range []func() int64{wide, near, edge} {
				l := make([]int64, n)
				for i := range l {
					l[i] = f()
				}
				if got, want := c.Sample(l), middle(l); got != want {
					t.Fatalf("Sample(%v): %d; want %d", l, got, want)
				}
				is(t, "Sample", c, 3, middle(l))
			}
		}
	}
}

// P7.1: the middle of 63 and of 64 that are all unlike, falling.
func TestSampleAtTheLimit(t *testing.T) {
	for n, want := range map[int]int64{63: 31, 64: 31, 62: 30} {
		l := make([]int64, n)
		for i := range l {
			l[i] = int64(n - 1 - i)
		}
		c := made(t, 0, -1)
		if got := c.Sample(l); got != want {
			t.Errorf("Sample of %d: %d; want %d", n, got, want)
		}
	}
}

// R4: the list that was handed in is as it was, spare room too, and not kept.
func TestSampleLeavesItsList(t *testing.T) {
	room := []int64{math.MaxInt64, 5, 3, math.MinInt64, 4, -9, -8}
	whole := slices.Clone(room)
	c := made(t, 0, -1)
	l := room[:5]
	if got := c.Sample(l); got != 4 {
		t.Errorf("Sample: %d", got)
	}
	if !slices.Equal(room, whole) {
		t.Errorf("Sample left %v", room)
	}
	for i := range room {
		room[i] = 77
	}
	is(t, "behind a change of the list", c, -1, 4)
}

// P7.1: what was sampled ahead is forgotten.
func TestSampleAgain(t *testing.T) {
	c := made(t, 0, -1)
	for _, offset := range []int64{100, -100, 0, most, -most, 1} {
		c.Sample([]int64{offset})
		is(t, "Sample again", c, -1, offset)
	}
}

// P7.1: Read is raw and Offset, held, or High; nothing wraps, nothing changes.
func TestRead(t *testing.T) {
	for _, high := range highs() {
		for _, offset := range offsets() {
			c := made(t, 9, high)
			c.Sample([]int64{offset})
			for _, raw := range raws() {
				for range 2 {
					if got, want := c.Read(raw), time(raw, offset, high); got != want {
						t.Errorf("Read(%d), Offset %d, High %d: %d; want %d", raw, offset, high, got, want)
					}
					is(t, "Read", c, high, offset)
				}
			}
		}
	}
}

// P7.1: Read at the edges that its sentence names, in digits.
func TestReadEdges(t *testing.T) {
	for _, x := range []struct{ high, offset, raw, want int64 }{
		{-1, 0, -1, 0}, {-1, 0, 0, 0}, {-1, 0, 1, 1}, {-1, 0, top, top}, {-1, 0, top + 1, top},
		{-1, 0, math.MinInt64, 0}, {-1, 0, math.MaxInt64, top},
		{-1, most, math.MinInt64, 0}, {-1, most, math.MaxInt64, top},
		{-1, -most, math.MinInt64, 0}, {-1, -most, math.MaxInt64, top},
		{-1, most, -1, 1099511627775}, {-1, most, 0, 1099511627776}, {-1, most, top, top},
		{-1, -most, -1, 0}, {-1, -most, 0, 0}, {-1, -most, top, 36027697507336191},
		{-1, most, -most, 0}, {-1, most, -most - 1, 0}, {-1, most, -most + 1, 1},
		{-1, -most, top + most, top}, {-1, -most, top + most - 1, top - 1}, {-1, -most, top + most + 1, top},
		{1000, 0, 999, 1000}, {1000, 0, 1000, 1000}, {1000, 0, 1001, 1001}, {1000, -5, 1004, 1000},
		{top, 0, 0, top}, {top, most, math.MaxInt64, top}, {top, -most, math.MinInt64, top},
	} {
		c := made(t, 0, x.high)
		c.Sample([]int64{x.offset})
		if got := c.Read(x.raw); got != x.want {
			t.Errorf("%+v: %d", x, got)
		}
	}
}

// issues fails, unless Issue of raw is of that Time.
func issues(t *testing.T, c *Clock, raw, want int64, node uint8) {
	t.Helper()
	s, err := c.Issue(raw)
	if s != (api.Stamp{Time: want, Node: node}) || err != api.OK {
		t.Errorf("Issue(%d): %v, %v; want %d", raw, s, err, want)
	}
	is(t, "Issue", c, want, c.Offset())
}

// spent fails, unless Issue of raw finds no time, and changes nothing.
func spent(t *testing.T, c *Clock, raw int64) {
	t.Helper()
	offset := c.Offset()
	if s, err := c.Issue(raw); s != (api.Stamp{}) || err != api.ESPENT {
		t.Errorf("Issue(%d): %v, %v; want ESPENT", raw, s, err)
	}
	is(t, "a clock that is spent", c, top, offset)
}

// P7.1: the chapter's example, and a raw time that stands, goes back, leaps on.
func TestIssue(t *testing.T) {
	for _, node := range []uint8{3, 0, 1, 255} {
		c := made(t, node, -1)
		for _, x := range [][2]int64{{-5, 0}, {-5, 1}, {1, 2}, {2, 3}, {4, 4}, {10, 10}, {10, 11}, {3, 12}, {math.MinInt64, 13}, {13, 14}, {15, 15}, {1 << 50, 1 << 50}, {7, 1<<50 + 1}} {
			issues(t, c, x[0], x[1], node)
		}
	}
}

// P7.1: the last Time is issued once, by whatever way it is come to.
func TestIssueTheLast(t *testing.T) {
	for _, raw := range raws() {
		c := made(t, 8, top-1)
		issues(t, c, raw, top, 8)
		spent(t, c, raw)
		spent(t, c, 0)
		spent(t, made(t, 8, top), raw)
	}
	c := made(t, 8, top-2)
	issues(t, c, 0, top-1, 8)
	issues(t, c, 0, top, 8)
	spent(t, c, 0)
	c = made(t, 8, -1)
	issues(t, c, math.MaxInt64, top, 8)
	spent(t, c, math.MinInt64)
	if got := c.Read(0); got != top {
		t.Errorf("Read of a clock that is spent: %d", got)
	}
}

// P7.1: a clock that is spent still samples and reads.
func TestSpentGoesOn(t *testing.T) {
	c := made(t, 8, top)
	if got := c.Sample([]int64{-most}); got != -most {
		t.Errorf("Sample: %d", got)
	}
	spent(t, c, 5)
	if c.See(api.Stamp{Time: top, Node: 255}) || c.See(api.Stamp{Time: top + 1}) {
		t.Errorf("See of a clock that is spent")
	}
	is(t, "spent", c, top, -most)
}

// P7.1: Issue of every raw time, offset and High.
func TestIssueOfAll(t *testing.T) {
	for _, high := range highs() {
		for _, offset := range offsets() {
			for _, raw := range raws() {
				c := made(t, 200, high)
				c.Sample([]int64{offset})
				want := time(raw, offset, high)
				if high == top {
					spent(t, c, raw)
					continue
				}
				if want == high {
					want++
				}
				issues(t, c, raw, want, 200)
			}
		}
	}
}

// P7.1: a clock that is set back issues no Time twice.
func TestIssueBehindSample(t *testing.T) {
	c := made(t, 2, -1)
	c.Sample([]int64{-100})
	issues(t, c, 1000, 900, 2)
	c.Sample([]int64{-500})
	issues(t, c, 1000, 901, 2)
	c.Sample([]int64{most})
	issues(t, c, 1000, most+1000, 2)
	c.Sample([]int64{0})
	issues(t, c, 1000, most+1001, 2)
}

// P7.1: See takes a Time above High, of a stamp that may be, of any node.
func TestSee(t *testing.T) {
	for _, node := range []uint8{0, 4, 5, 255} {
		for _, x := range []struct {
			high, time int64
			want       bool
		}{
			{-1, -1, false}, {-1, 0, true}, {-1, 1, true}, {-1, top, true}, {-1, top + 1, false},
			{-1, math.MinInt64, false}, {-1, math.MaxInt64, false}, {-1, -2, false},
			{0, -1, false}, {0, 0, false}, {0, 1, true},
			{100, 99, false}, {100, 100, false}, {100, 101, true}, {100, top - 1, true}, {100, top, true},
			{100, top + 1, false}, {100, -1, false}, {100, math.MaxInt64, false},
			{top - 1, top - 1, false}, {top - 1, top, true}, {top - 1, top + 1, false},
			{top, top, false}, {top, top + 1, false}, {top, 0, false},
		} {
			c := made(t, 4, x.high)
			c.Sample([]int64{6})
			if got := c.See(api.Stamp{Time: x.time, Node: node}); got != x.want {
				t.Errorf("High %d: See of %d, %d: %v", x.high, x.time, node, got)
			}
			high := x.high
			if x.want {
				high = x.time
			}
			is(t, "See", c, high, 6)
		}
	}
}

// P7.1: Read and Issue behind a See are not below what was seen; it is seen once.
func TestIssueBehindSee(t *testing.T) {
	c := made(t, 4, 10)
	seen := api.Stamp{Time: 5000, Node: 9}
	if !c.See(seen) || c.See(seen) {
		t.Errorf("See twice")
	}
	if got := c.Read(20); got != 5000 {
		t.Errorf("Read behind See: %d", got)
	}
	issues(t, c, 20, 5001, 4)
	if c.See(api.Stamp{Time: 5001, Node: 255}) {
		t.Errorf("See of what was issued")
	}
	if !c.See(api.Stamp{Time: top - 1}) {
		t.Errorf("See far ahead")
	}
	issues(t, c, 20, top, 4)
	spent(t, c, 20)
	c = made(t, 4, 10)
	if !c.See(api.Stamp{Time: top}) {
		t.Errorf("See of the last")
	}
	spent(t, c, 20)
}

// P7.1: whatever is called, Times rise, and High, Offset are as a plain count
// of them says.
func TestRuns(t *testing.T) {
	r := rand.New(rand.NewSource(77))
	all := raws()
	for run := range 300 {
		high, offset := int64(run%3)*500-1, int64(0)
		c := made(t, uint8(run), high)
		for range 100 {
			raw := int64(r.Intn(4000)) - 500
			if run%10 == 0 {
				raw = all[r.Intn(len(all))]
			}
			switch r.Intn(4) {
			case 0:
				offset = min(max(raw, -most), most)
				c.Sample([]int64{raw})
			case 1:
				want := raw > high && raw <= top
				if c.See(api.Stamp{Time: raw, Node: 1}) != want {
					t.Fatalf("See of %d at High %d", raw, high)
				}
				if want {
					high = raw
				}
			case 2:
				if got := c.Read(raw); got != time(raw, offset, high) {
					t.Fatalf("Read(%d): %d", raw, got)
				}
			default:
				if high == top {
					spent(t, c, raw)
					continue
				}
				high = max(time(raw, offset, high), high+1)
				issues(t, c, raw, high, uint8(run))
			}
			is(t, "a run", c, high, offset)
		}
	}
}
