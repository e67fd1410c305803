package chain

import (
	"math"
	"math/rand"
	"slices"
	"strings"
	"testing"

	"hourglass/api"
)

const (
	top  = 36028797018963967 // MaxTime, in digits
	most = 50                // MaxChain
	long = 200               // MaxValue
)

func at(time int64, node uint8) api.Stamp { return api.Stamp{Time: time, Node: node} }

func val(time int64, node uint8, s string) Version {
	return Version{Stamp: at(time, node), Value: s}
}

func gone(time int64, node uint8) Version { return Version{Stamp: at(time, node), Gone: true} }

// made is a chain of versions, put in as they stand.
func made(t *testing.T, l ...Version) *Chain {
	t.Helper()
	c := New()
	for _, v := range l {
		if err := c.Put(v); err != api.OK {
			t.Fatalf("P11.1: Put(%v): %v", v, err)
		}
	}
	return c
}

// full is MaxChain versions at the Times 10, 20 .. and Node 5, each third Gone.
func full() []Version {
	var l []Version
	for i := range most {
		time := int64(10 * (i + 1))
		if i%3 == 2 {
			l = append(l, gone(time, 5))
		} else {
			l = append(l, val(time, 5, strings.Repeat("v", i)))
		}
	}
	return l
}

// few is versions of all kinds, rising.
func few() []Version {
	return []Version{val(1, 0, "a"), val(3, 0, ""), val(3, 1, "n"), gone(5, 7), val(7, 7, "e"), gone(9, 255)}
}

// probes are stamps at, and just around, each version's, and at the ends.
func probes(l []Version) []api.Stamp {
	p := []api.Stamp{at(math.MinInt64, 0), at(math.MinInt64, 255), at(-1, 255), at(0, 0), at(0, 255), at(top, 0), at(top, 255), at(top+1, 0), at(math.MaxInt64, 0), at(math.MaxInt64, 255)}
	for _, v := range l {
		for _, time := range []int64{v.Stamp.Time - 1, v.Stamp.Time, v.Stamp.Time + 1} {
			for _, node := range []uint8{0, v.Stamp.Node - 1, v.Stamp.Node, v.Stamp.Node + 1, 255} {
				p = append(p, at(time, node))
			}
		}
	}
	return p
}

// above compares by hand: by Time, then Node.
func above(a, b api.Stamp) bool {
	return a.Time > b.Time || a.Time == b.Time && a.Node > b.Node
}

// plainAt goes through a rising list from its end.
func plainAt(l []Version, s api.Stamp) (Version, bool) {
	for _, v := range slices.Backward(l) {
		if !above(v.Stamp, s) {
			return v, true
		}
	}
	return Version{}, false
}

// plainSince counts one by one.
func plainSince(l []Version, s api.Stamp) int {
	n := 0
	for _, v := range l {
		if above(v.Stamp, s) {
			n++
		}
	}
	return n
}

// is fails, unless each call of the chain tells of just these versions, which
// rise.
func is(t *testing.T, what string, c *Chain, want ...Version) {
	t.Helper()
	if got := c.All(); !slices.Equal(got, want) {
		t.Fatalf("%s: All: %v; want %v", what, got, want)
	}
	if c.Len() != len(want) {
		t.Fatalf("%s: Len: %d; want %d", what, c.Len(), len(want))
	}
	newest := Version{}
	if len(want) > 0 {
		newest = want[len(want)-1]
	}
	if v, ok := c.Newest(); v != newest || ok != (len(want) > 0) {
		t.Fatalf("%s: Newest: %v, %v; want %v", what, v, ok, newest)
	}
	for _, s := range probes(want) {
		wantAt, wantOk := plainAt(want, s)
		if v, ok := c.At(s); v != wantAt || ok != wantOk {
			t.Fatalf("%s: At(%v): %v, %v; want %v, %v", what, s, v, ok, wantAt, wantOk)
		}
		if n := c.Since(s); n != plainSince(want, s) {
			t.Fatalf("%s: Since(%v): %d; want %d", what, s, n, plainSince(want, s))
		}
	}
}

// refused fails, unless Put answers that error and changes nothing.
func refused(t *testing.T, c *Chain, v Version, want api.Errno) {
	t.Helper()
	was := c.All()
	if err := c.Put(v); err != want {
		t.Errorf("P11.1: Put(%.60v): %v, want %v", v, err, want)
	}
	is(t, "R3: a Put that is refused", c, was...)
}

// orders are the ways in which the versions of a rising list are put in.
func orders(l []Version) map[string][]Version {
	falling, mixed, ends := slices.Clone(l), slices.Clone(l), []Version{}
	slices.Reverse(falling)
	rand.New(rand.NewSource(11)).Shuffle(len(mixed), func(i, k int) { mixed[i], mixed[k] = mixed[k], mixed[i] })
	for i := range l {
		if i%2 == 0 {
			ends = append(ends, l[i/2])
		} else {
			ends = append(ends, l[len(l)-1-i/2])
		}
	}
	return map[string][]Version{"rising": l, "falling": falling, "mixed": mixed, "from both ends": ends}
}

// The limits are as the tests take them.
func TestLimits(t *testing.T) {
	if api.MaxTime != top || api.MaxChain != most || api.MaxValue != long {
		t.Fatalf("limits: %d, %d, %d", int64(api.MaxTime), api.MaxChain, api.MaxValue)
	}
}

// P11.1, R2: a new one has none: false, and the version of noughts; 0; no list.
func TestEmpty(t *testing.T) {
	c := New()
	is(t, "a new one", c)
	for _, s := range probes(few()) {
		if n := c.Trim(s); n != 0 {
			t.Errorf("P11.1: Trim(%v) of none: %d", s, n)
		}
	}
	is(t, "a new one, trimmed", c)
}

// P11.1: the chapter's example.
func TestExample(t *testing.T) {
	c := made(t, val(1, 0, "first"), val(3, 0, "second"))
	if v, ok := c.At(at(2, 9)); v != val(1, 0, "first") || !ok {
		t.Errorf("P11.1: At(2.9): %v, %v", v, ok)
	}
}

// P11.1: Put of Stamps that may be, and that may not, with any Node.
func TestPutStamps(t *testing.T) {
	for node := range 256 {
		for _, time := range []int64{0, 1, top - 1, top} {
			v := val(time, uint8(node), "x")
			is(t, "Put", made(t, v), v)
			g := gone(time, uint8(node))
			is(t, "Put of one that is Gone", made(t, g), g)
		}
		for _, time := range []int64{math.MinInt64, -top, -1, top + 1, math.MaxInt64} {
			refused(t, New(), val(time, uint8(node), "x"), api.EARG)
			refused(t, New(), val(time, uint8(node), ""), api.EARG)
			refused(t, New(), gone(time, uint8(node)), api.EARG)
		}
	}
}

// P11.1: Put of Values: of no byte to MaxValue bytes, whatever they are; and
// of more.
func TestPutValues(t *testing.T) {
	b := make([]byte, 256)
	for i := range b {
		b[i] = byte(i)
	}
	allBytes := string(b)
	for _, s := range []string{"", "x", "\x00", "\xff\x00", "ä", " ", " x\n", allBytes[:long], allBytes[56:], strings.Repeat("x", long-1), strings.Repeat("x", long), strings.Repeat("\x00", long), strings.Repeat("ä", long/2)} {
		v := val(4, 2, s)
		is(t, "Put", made(t, v), v)
	}
	for _, s := range []string{strings.Repeat("x", long+1), strings.Repeat("\x00", long+1), strings.Repeat("ä", long/2) + "x", strings.Repeat("ä", long), strings.Repeat("x", 1<<20)} {
		refused(t, New(), val(4, 2, s), api.EARG)
		refused(t, made(t, few()...), val(4, 2, s), api.EARG)
	}
}

// P11.1: one that is Gone has no Value.
func TestPutGone(t *testing.T) {
	is(t, "Put", made(t, gone(4, 2)), gone(4, 2))
	for _, s := range []string{"x", "\x00", strings.Repeat("x", long), strings.Repeat("x", long+1)} {
		v := Version{Stamp: at(4, 2), Value: s, Gone: true}
		refused(t, New(), v, api.EARG)
		refused(t, made(t, few()...), v, api.EARG)
	}
}

// P11.1: a Stamp that is there, whatever the version is beside it.
func TestPutAgain(t *testing.T) {
	c := made(t, few()...)
	for _, v := range few() {
		s := v.Stamp
		refused(t, c, v, api.EEXIST)
		refused(t, c, Version{Stamp: s}, api.EEXIST)
		refused(t, c, Version{Stamp: s, Value: "other"}, api.EEXIST)
		refused(t, c, Version{Stamp: s, Value: strings.Repeat("x", long)}, api.EEXIST)
		refused(t, c, Version{Stamp: s, Gone: true}, api.EEXIST)
	}
	is(t, "Put again", c, few()...)
}

// P11.1: Stamps of one Time and other Nodes are other Stamps.
func TestPutNodes(t *testing.T) {
	c := made(t, val(3, 4, "a"), gone(3, 255), val(3, 3, "b"), val(3, 0, ""), val(3, 5, "c"))
	is(t, "one Time", c, val(3, 0, ""), val(3, 3, "b"), val(3, 4, "a"), val(3, 5, "c"), gone(3, 255))
	refused(t, c, val(3, 4, "z"), api.EEXIST)
}

// P11.1: Stamps of other Times and one Node, and of Times and Nodes swapped.
func TestPutTimes(t *testing.T) {
	c := made(t, val(4, 3, "a"), val(3, 4, "b"), val(2, 4, "c"), val(top, 4, "d"), val(0, 4, "e"))
	is(t, "one Node", c, val(0, 4, "e"), val(2, 4, "c"), val(3, 4, "b"), val(4, 3, "a"), val(top, 4, "d"))
}

// P11.1, R6: EARG ahead of EEXIST ahead of EFULL, at one that is not full and
// at a full one.
func TestPutErrorsInOrder(t *testing.T) {
	tooLong := strings.Repeat("x", long+1)
	for what, c := range map[string]*Chain{"not full": made(t, full()[:20]...), "full": made(t, full()...)} {
		t.Run(what, func(t *testing.T) {
			refused(t, c, val(100, 5, tooLong), api.EARG)
			refused(t, c, Version{Stamp: at(100, 5), Value: "x", Gone: true}, api.EARG)
			refused(t, c, Version{Stamp: at(30, 5), Value: "x", Gone: true}, api.EARG)
			refused(t, c, val(101, 5, tooLong), api.EARG)
			refused(t, c, val(-1, 5, ""), api.EARG)
			refused(t, c, gone(top+1, 5), api.EARG)
			refused(t, c, Version{Stamp: at(-1, 5), Value: tooLong, Gone: true}, api.EARG)
			refused(t, c, val(100, 5, "x"), api.EEXIST)
			refused(t, c, gone(100, 5), api.EEXIST)
			refused(t, c, val(10, 5, ""), api.EEXIST)
		})
	}
	refused(t, made(t, full()...), val(100, 6, ""), api.EFULL)
}

// P11.1: MaxChain versions, put in any order; one more is EFULL, wherever it
// would stand.
func TestPutFull(t *testing.T) {
	for what, l := range orders(full()) {
		t.Run(what, func(t *testing.T) {
			c := New()
			for i, v := range l {
				if err := c.Put(v); err != api.OK || c.Len() != i+1 {
					t.Fatalf("P11.1: Put of number %d: %v, Len %d", i, err, c.Len())
				}
			}
			is(t, "a full one", c, full()...)
			for _, s := range []api.Stamp{at(0, 0), at(10, 4), at(10, 6), at(255, 0), at(10*most, 6), at(top, 255)} {
				refused(t, c, Version{Stamp: s, Value: "x"}, api.EFULL)
				refused(t, c, Version{Stamp: s, Gone: true}, api.EFULL)
			}
		})
	}
}

// P11.1: At by hand: below all, at one, between two, above all, by Nodes too;
// one that is Gone is told; and how many are Since.
func TestAtAndSince(t *testing.T) {
	for what, l := range orders(few()) {
		t.Run(what, func(t *testing.T) {
			c := made(t, l...)
			for _, x := range []struct {
				s     api.Stamp
				want  Version
				ok    bool
				since int
			}{
				{at(math.MinInt64, 0), Version{}, false, 6},
				{at(-1, 255), Version{}, false, 6},
				{at(0, 0), Version{}, false, 6},
				{at(0, 255), Version{}, false, 6},
				{at(1, 0), val(1, 0, "a"), true, 5},
				{at(1, 1), val(1, 0, "a"), true, 5},
				{at(2, 255), val(1, 0, "a"), true, 5},
				{at(3, 0), val(3, 0, ""), true, 4},
				{at(3, 1), val(3, 1, "n"), true, 3},
				{at(3, 2), val(3, 1, "n"), true, 3},
				{at(5, 6), val(3, 1, "n"), true, 3},
				{at(5, 7), gone(5, 7), true, 2},
				{at(5, 8), gone(5, 7), true, 2},
				{at(7, 6), gone(5, 7), true, 2},
				{at(7, 7), val(7, 7, "e"), true, 1},
				{at(9, 254), val(7, 7, "e"), true, 1},
				{at(9, 255), gone(9, 255), true, 0},
				{at(10, 0), gone(9, 255), true, 0},
				{at(top, 255), gone(9, 255), true, 0},
				{at(top+1, 0), gone(9, 255), true, 0},
				{at(math.MaxInt64, 255), gone(9, 255), true, 0},
			} {
				if v, ok := c.At(x.s); v != x.want || ok != x.ok {
					t.Errorf("P11.1: At(%v): %v, %v; want %v, %v", x.s, v, ok, x.want, x.ok)
				}
				if n := c.Since(x.s); n != x.since {
					t.Errorf("P11.1: Since(%v): %d; want %d", x.s, n, x.since)
				}
			}
			is(t, "asked", c, few()...)
		})
	}
}

// P11.1: versions at both ends of time.
func TestEndsOfTime(t *testing.T) {
	first, last := val(0, 0, "first"), val(top, 255, "last")
	c := made(t, last, first)
	is(t, "both ends", c, first, last)
	if v, ok := c.At(at(-1, 255)); v != (Version{}) || ok {
		t.Errorf("P11.1: At below 0: %v, %v", v, ok)
	}
	if n := c.Trim(at(math.MaxInt64, 0)); n != 1 {
		t.Errorf("P11.1: Trim above MaxTime: %d", n)
	}
	is(t, "the last is left", c, last)
}

// P11.1: Newest has the greatest Stamp, whichever was put last.
func TestNewest(t *testing.T) {
	c := New()
	for _, x := range []struct{ put, want Version }{
		{val(5, 3, "a"), val(5, 3, "a")},
		{val(4, 255, "b"), val(5, 3, "a")},
		{gone(5, 2), val(5, 3, "a")},
		{val(5, 4, "c"), val(5, 4, "c")},
		{gone(6, 0), gone(6, 0)},
		{val(1, 1, "d"), gone(6, 0)},
		{val(top, 0, ""), val(top, 0, "")},
	} {
		if err := c.Put(x.put); err != api.OK {
			t.Fatalf("P11.1: Put(%v): %v", x.put, err)
		}
		if v, ok := c.Newest(); v != x.want || !ok {
			t.Errorf("P11.1: Newest behind %v: %v, %v", x.put, v, ok)
		}
	}
}

// P11.1: Trim by hand: how many go, what is left, and that a second one, or
// one at an earlier time, takes nothing more.
func TestTrim(t *testing.T) {
	for _, x := range []struct {
		s api.Stamp
		n int
	}{
		{at(math.MinInt64, 0), 0},
		{at(-1, 0), 0},
		{at(0, 255), 0},
		{at(1, 0), 0},
		{at(2, 9), 0},
		{at(3, 0), 1},
		{at(3, 1), 2},
		{at(3, 2), 2},
		{at(5, 6), 2},
		{at(5, 7), 4},
		{at(5, 8), 4},
		{at(7, 6), 4},
		{at(7, 7), 4},
		{at(9, 254), 4},
		{at(9, 255), 6},
		{at(10, 0), 6},
		{at(top+1, 0), 6},
		{at(math.MaxInt64, 255), 6},
	} {
		for what, l := range orders(few()) {
			c := made(t, l...)
			if n := c.Trim(x.s); n != x.n {
				t.Errorf("P11.1: Trim(%v) of what was put %s: %d; want %d", x.s, what, n, x.n)
			}
			is(t, "trimmed", c, few()[x.n:]...)
			if n := c.Trim(x.s); n != 0 {
				t.Errorf("P11.1: Trim(%v) again: %d", x.s, n)
			}
			if n := c.Trim(at(0, 0)); n != 0 {
				t.Errorf("P11.1: Trim(0.0) behind Trim(%v): %d", x.s, n)
			}
			is(t, "trimmed twice", c, few()[x.n:]...)
		}
	}
}

// P11.1: Trim of one version: it goes only if it is Gone, and at or behind it.
func TestTrimOne(t *testing.T) {
	for _, x := range []struct {
		v Version
		s api.Stamp
		n int
	}{
		{val(5, 5, "x"), at(5, 4), 0}, {val(5, 5, "x"), at(5, 5), 0}, {val(5, 5, "x"), at(6, 0), 0},
		{val(5, 5, ""), at(5, 4), 0}, {val(5, 5, ""), at(5, 5), 0}, {val(5, 5, ""), at(6, 0), 0},
		{gone(5, 5), at(5, 4), 0}, {gone(5, 5), at(5, 5), 1}, {gone(5, 5), at(6, 0), 1},
	} {
		c := made(t, x.v)
		if n := c.Trim(x.s); n != x.n || c.Len() != 1-x.n {
			t.Errorf("P11.1: Trim(%v) of %v: %d, Len %d", x.s, x.v, n, c.Len())
		}
	}
}

// P11.1: one that is Gone and not At's stays, if it is above; goes, if below.
func TestTrimOfManyGone(t *testing.T) {
	l := []Version{gone(1, 0), gone(2, 0), gone(3, 0), val(4, 0, "x"), gone(5, 0), gone(6, 0)}
	for time, want := range []int{0, 1, 2, 3, 3, 5, 6, 6} {
		c := made(t, l...)
		if n := c.Trim(at(int64(time), 9)); n != want {
			t.Errorf("P11.1: Trim(%d.9): %d; want %d", time, n, want)
		}
		is(t, "trimmed", c, l[want:]...)
	}
}

// P11.1: behind a Trim there is room again, for just as many as went, and for
// the Stamps that went.
func TestTrimMakesRoom(t *testing.T) {
	for _, x := range []struct {
		s api.Stamp
		n int
	}{{at(20, 5), 1}, {at(30, 5), 3}, {at(100, 5), 9}, {at(10*most, 5), most - 1}} {
		c := made(t, full()...)
		refused(t, c, val(10, 6, ""), api.EFULL)
		if n := c.Trim(x.s); n != x.n {
			t.Fatalf("P11.1: Trim(%v) of a full one: %d; want %d", x.s, n, x.n)
		}
		for i, v := range full()[:x.n] {
			if err := c.Put(v); err != api.OK {
				t.Fatalf("P11.1: Put of number %d behind Trim(%v): %v", i, x.s, err)
			}
		}
		is(t, "full again", c, full()...)
		refused(t, c, val(10, 6, ""), api.EFULL)
	}
}

// P11.1: a chain that was emptied is as a new one.
func TestTrimToNone(t *testing.T) {
	c := made(t, few()...)
	if n := c.Trim(at(9, 255)); n != 6 {
		t.Fatalf("P11.1: Trim at the last, which is Gone: %d", n)
	}
	is(t, "emptied", c)
	for _, v := range few() {
		if err := c.Put(v); err != api.OK {
			t.Errorf("P11.1: Put(%v) into an emptied one: %v", v, err)
		}
	}
	is(t, "filled anew", c, few()...)
}

// P11.1, R4: what is written into All's answer, or into the room behind it,
// changes nothing.
func TestAllIsNewMemory(t *testing.T) {
	for _, n := range []int{0, 1, 2, 5, 33, most} {
		l := full()[:n]
		c := made(t, l...)
		one, two := c.All(), c.All()
		for i := range one {
			one[i] = gone(top, 255)
		}
		spare := one[:cap(one)]
		for i := range spare {
			spare[i] = gone(top, 255)
		}
		one = append(one, val(1, 1, "put behind"))
		if !slices.Equal(two, l) {
			t.Errorf("R4: writing into one All changed another: %v", two)
		}
		is(t, "an All was written into", c, l...)
		if n < most {
			v := val(10*most, 6, "next")
			if err := c.Put(v); err != api.OK {
				t.Errorf("P11.1: Put behind an All: %v", err)
			}
			is(t, "an All was put behind", c, append(slices.Clone(l), v)...)
		}
	}
}

// P11.1, R4: what All told stays as it was told, whatever is put or trimmed.
func TestAllStays(t *testing.T) {
	c := New()
	var told [][]Version
	for _, v := range orders(full())["mixed"] {
		if err := c.Put(v); err != api.OK {
			t.Fatalf("P11.1: Put(%v): %v", v, err)
		}
		told = append(told, c.All())
	}
	was := make([][]Version, len(told))
	for i, l := range told {
		was[i] = slices.Clone(l)
	}
	before := c.All()
	c.Trim(at(200, 5))
	for _, v := range []Version{val(1, 0, "new"), val(205, 0, "new"), val(top, 0, "new")} {
		if err := c.Put(v); err != api.OK {
			t.Fatalf("P11.1: Put(%v): %v", v, err)
		}
	}
	c.Trim(at(top, 0))
	for i := range told {
		if len(told[i]) != i+1 || !slices.Equal(told[i], was[i]) {
			t.Errorf("R4: an All of %d changed: %v", i+1, told[i])
		}
	}
	if !slices.Equal(before, full()) {
		t.Errorf("R4: an All of all changed: %v", before)
	}
}

// R5: two chains know nothing of each other.
func TestTwoChains(t *testing.T) {
	a, b := New(), New()
	for _, v := range few() {
		if err := a.Put(v); err != api.OK {
			t.Fatalf("P11.1: Put(%v): %v", v, err)
		}
	}
	is(t, "the other one", b)
	other := []Version{val(3, 0, "mine"), gone(top, 0)}
	for _, v := range other {
		if err := b.Put(v); err != api.OK {
			t.Fatalf("P11.1: Put(%v) into the other one: %v", v, err)
		}
	}
	is(t, "the one", a, few()...)
	is(t, "the other one", b, other...)
	if n := a.Trim(at(top, 255)); n != 6 {
		t.Errorf("P11.1: Trim: %d", n)
	}
	is(t, "the one, trimmed", a)
	is(t, "the other one", b, other...)
}

// plain is a chain that keeps no order and goes through all at each call.
type plain struct{ l []Version }

func (p *plain) put(v Version) api.Errno {
	if v.Stamp.Time < 0 || v.Stamp.Time > top || len(v.Value) > long || v.Gone && len(v.Value) > 0 {
		return api.EARG
	}
	for _, w := range p.l {
		if w.Stamp == v.Stamp {
			return api.EEXIST
		}
	}
	if len(p.l) == most {
		return api.EFULL
	}
	p.l = append(p.l, v)
	return api.OK
}

func (p *plain) rising() []Version {
	l := slices.Clone(p.l)
	slices.SortFunc(l, func(a, b Version) int {
		if above(a.Stamp, b.Stamp) {
			return 1
		}
		return -1
	})
	return l
}

func (p *plain) trim(s api.Stamp) int {
	seen, ok := plainAt(p.rising(), s)
	if !ok {
		return 0
	}
	n := len(p.l)
	p.l = slices.DeleteFunc(p.l, func(v Version) bool {
		return above(seen.Stamp, v.Stamp) || v == seen && seen.Gone
	})
	return n - len(p.l)
}

// anyVersion draws one, seldom one that may not be.
func anyVersion(r *rand.Rand) Version {
	v := Version{Stamp: anyStamp(r)}
	switch r.Intn(20) {
	case 0:
		v.Value = strings.Repeat("x", long+r.Intn(3)-1)
	case 1:
		v.Value, v.Gone = "x", true
	case 2, 3, 4, 5, 6:
		v.Gone = true
	default:
		v.Value = strings.Repeat("v", r.Intn(4))
	}
	return v
}

func anyStamp(r *rand.Rand) api.Stamp {
	s := at(int64(r.Intn(40)-1), uint8(r.Intn(4)))
	if r.Intn(30) == 0 {
		s.Time += top - 20
	}
	return s
}

// P11.1: calls in any order, held against a chain that keeps no order.
func TestAny(t *testing.T) {
	r := rand.New(rand.NewSource(1))
	seen := map[api.Errno]int{}
	for round := range 150 {
		c, p := New(), &plain{}
		for step := range 200 {
			if r.Intn(2+round) == 0 {
				s := anyStamp(r)
				if got, want := c.Trim(s), p.trim(s); got != want {
					t.Fatalf("P11.1: round %d, step %d: Trim(%v): %d; want %d", round, step, s, got, want)
				}
			} else {
				v := anyVersion(r)
				got, want := c.Put(v), p.put(v)
				if got != want {
					t.Fatalf("P11.1: round %d, step %d: Put(%v): %v; want %v", round, step, v, got, want)
				}
				seen[got]++
			}
			if step%10 == 0 {
				is(t, "any calls", c, p.rising()...)
			}
		}
	}
	for _, err := range []api.Errno{api.OK, api.EARG, api.EEXIST, api.EFULL} {
		if seen[err] == 0 {
			t.Errorf("no Put was answered %v", err)
		}
	}
}
