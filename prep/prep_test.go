package prep

import (
	"cmp"
	"math"
	"math/rand"
	"slices"
	"strconv"
	"strings"
	"testing"

	"hourglass/api"
	"hourglass/store"
)

const (
	top     = 36028797018963967 // MaxTime, in digits
	long    = 200               // MaxValue
	most    = 16                // MaxWrites
	entries = 100               // how many a table keeps
)

func at(time int64, node uint8) api.Stamp { return api.Stamp{Time: time, Node: node} }

// k is the bytes of a text, and noughts behind it, also where that may not be
// a key.
func k(s string) api.Key {
	var x api.Key
	copy(x[:], s)
	return x
}

func w(s, v string) api.Write { return api.Write{Key: k(s), Value: v} }

func gone(s string) api.Write { return api.Write{Key: k(s), Gone: true} }

// e is an entry with the Snap 1.7.
func e(id int64, when api.Stamp, l ...api.Write) Entry {
	return Entry{ID: id, Snap: at(1, 7), Stamp: when, Writes: l}
}

// many is n writes to unlike keys, which begin with a text.
func many(s string, n int) []api.Write {
	var l []api.Write
	for i := range n {
		l = append(l, w(s+strconv.Itoa(i), "v"+strconv.Itoa(i)))
	}
	return l
}

// with is n writes, one of them handed in, at a place.
func with(n, place int, one api.Write) []api.Write {
	l := many("m", n)
	l[place] = one
	return l
}

// places are the first, a middle and the last of n.
func places(n int) []int { return slices.Compact([]int{0, n / 2, n - 1}) }

// above compares by hand: by Time, then Node.
func above(a, b api.Stamp) bool {
	return a.Time > b.Time || a.Time == b.Time && a.Node > b.Node
}

func same(a, b Entry) bool {
	return a.ID == b.ID && a.Snap == b.Snap && a.Stamp == b.Stamp && slices.Equal(a.Writes, b.Writes)
}

func deep(x Entry) Entry {
	x.Writes = slices.Clone(x.Writes)
	return x
}

// plain is a table that keeps one list in no order, and goes through all of it
// at each call.
type plain struct{ l []Entry }

func mayBe(x api.Key) bool {
	s := strings.TrimRight(string(x[:]), "\x00")
	return s != "" && !strings.Contains(s, "\x00")
}

func badTime(s api.Stamp) bool { return s.Time < 0 || s.Time > top }

func bad(x Entry) bool {
	n := len(x.Writes)
	bad := x.ID <= 0 || badTime(x.Snap) || badTime(x.Stamp) || !above(x.Stamp, x.Snap) || n < 1 || n > most
	for i, a := range x.Writes {
		bad = bad || !mayBe(a.Key) || len(a.Value) > long || a.Gone && len(a.Value) > 0
		for _, b := range x.Writes[:i] {
			bad = bad || a.Key == b.Key
		}
	}
	return bad
}

func (p *plain) add(x Entry) api.Errno {
	if bad(x) {
		return api.EARG
	}
	if _, there := p.has(x.ID); there {
		return api.EEXIST
	}
	for _, a := range x.Writes {
		if _, held := p.holder(a.Key); held {
			return api.ECONFLICT
		}
	}
	if len(p.l) == entries {
		return api.EFULL
	}
	p.l = append(p.l, deep(x))
	return api.OK
}

func (p *plain) has(id int64) (Entry, bool) {
	for _, x := range p.l {
		if x.ID == id {
			return x, true
		}
	}
	return Entry{}, false
}

func (p *plain) drop(id int64) (Entry, bool) {
	x, there := p.has(id)
	p.l = slices.DeleteFunc(p.l, func(y Entry) bool { return y.ID == id })
	return x, there
}

func (p *plain) holder(x api.Key) (Entry, bool) {
	for _, y := range p.l {
		for _, a := range y.Writes {
			if a.Key == x {
				return y, true
			}
		}
	}
	return Entry{}, false
}

func (p *plain) least() (api.Stamp, bool) {
	var least api.Stamp
	for i, x := range p.l {
		if i == 0 || above(least, x.Stamp) {
			least = x.Stamp
		}
	}
	return least, len(p.l) > 0
}

func (p *plain) all() []Entry {
	l := slices.Clone(p.l)
	slices.SortFunc(l, func(a, b Entry) int { return cmp.Compare(a.ID, b.ID) })
	return l
}

// keys are all that are held, one that seldom is, and some that may not be.
func (p *plain) keys() []api.Key {
	l := []api.Key{{}, k("nobody's"), k("\x00a"), k("a\x00b")}
	for _, x := range p.l {
		for _, a := range x.Writes {
			l = append(l, a.Key)
		}
	}
	return l
}

// around are stamps at, and just beside, one, and at the ends.
func around(s api.Stamp) []api.Stamp {
	return []api.Stamp{
		s, at(s.Time, s.Node-1), at(s.Time, s.Node+1), at(s.Time-1, 255), at(s.Time-1, s.Node), at(s.Time+1, 0),
		at(math.MinInt64, 0), at(-1, 255), at(0, 0), at(0, 255), at(top, 255), at(top+1, 0), at(math.MaxInt64, 255),
	}
}

// is fails, unless each call of the table tells the same as the plain one.
func is(t *testing.T, what string, x *Table, p *plain) {
	t.Helper()
	if got, want := x.All(), p.all(); !slices.EqualFunc(got, want, same) {
		t.Fatalf("%s: All: %v; want %v", what, got, want)
	}
	least, some := x.Least()
	if want, wantSome := p.least(); least != want || some != wantSome {
		t.Fatalf("%s: Least: %v, %v; want %v, %v", what, least, some, want, wantSome)
	}
	ids := []int64{math.MinInt64, -1, 0, 1, 2, math.MaxInt64}
	for _, y := range p.l {
		ids = append(ids, y.ID-1, y.ID, y.ID+1)
	}
	for _, id := range ids {
		got, ok := x.Has(id)
		if want, wantOk := p.has(id); !same(got, want) || ok != wantOk {
			t.Fatalf("%s: Has(%d): %v, %v; want %v, %v", what, id, got, ok, want, wantOk)
		}
	}
	for _, key := range p.keys() {
		sameHolder(t, what, x, p, key)
	}
}

// sameHolder fails, unless Holder and Blocks of a key are as in the plain one.
func sameHolder(t *testing.T, what string, x *Table, p *plain, key api.Key) {
	t.Helper()
	want, held := p.holder(key)
	if id, ok := x.Holder(key); id != want.ID || ok != held {
		t.Fatalf("%s: Holder(%q): %d, %v; want %d, %v", what, key, id, ok, want.ID, held)
	}
	for _, when := range around(want.Stamp) {
		wantID, wantOk := int64(0), false
		if held && !above(want.Stamp, when) {
			wantID, wantOk = want.ID, true
		}
		if id, ok := x.Blocks(key, when); id != wantID || ok != wantOk {
			t.Fatalf("%s: Blocks(%q, %v): %d, %v; want %d, %v", what, key, when, id, ok, wantID, wantOk)
		}
	}
}

// pair is a table, and a plain one that is told the same.
type pair struct {
	x *Table
	p *plain
}

func newPair() pair { return pair{New(), &plain{}} }

// add is an Add that is well, and that changes what is told as it should.
func (y pair) add(t *testing.T, l ...Entry) {
	t.Helper()
	for _, one := range l {
		want := y.p.add(one)
		if err := y.x.Add(one); err != api.OK || want != api.OK {
			t.Fatalf("P13.1: Add(%.300v): %v; want %v", one, err, want)
		}
	}
	is(t, "P13.1: added", y.x, y.p)
}

// refused fails, unless Add answers that error and changes nothing.
func (y pair) refused(t *testing.T, want api.Errno, one Entry) {
	t.Helper()
	if err := y.x.Add(one); err != want {
		t.Fatalf("P13.1: Add(%.300v): %v; want %v", one, err, want)
	}
	is(t, "R3: an Add that is refused", y.x, y.p)
	if err := y.p.add(one); err != want {
		t.Fatalf("the plain one: %v; want %v", err, want)
	}
}

// drop is a Drop of an ID that is there or is not, and what it should tell.
func (y pair) drop(t *testing.T, id int64, there bool) {
	t.Helper()
	want, wantOk := y.p.drop(id)
	if got, ok := y.x.Drop(id); !same(got, want) || ok != wantOk || ok != there {
		t.Fatalf("P13.1: Drop(%d): %v, %v; want %v, %v", id, got, ok, want, there)
	}
	is(t, "P13.1: dropped", y.x, y.p)
}

// few is a table of some entries: 7 (a, b, c at 5.3), 3 (d, Gone, at 9.0), 12
// (sixteen keys, m0 to m15, at 5.2).
func few(t *testing.T) pair {
	t.Helper()
	y := newPair()
	y.add(t, e(7, at(5, 3), w("b", "b5"), gone("a"), w("c", "")), e(3, at(9, 0), gone("d")), e(12, at(5, 2), many("m", most)...))
	return y
}

// filled is a table of n entries, with the IDs 10, 20 .., each of one key (k0,
// k1 ..).
func filled(t *testing.T, n int) pair {
	t.Helper()
	y := newPair()
	for i := range n {
		one := e(int64(10*(i+1)), at(int64(1000-i), 0), w("k"+strconv.Itoa(i), ""))
		if err := y.x.Add(one); err != api.OK || y.p.add(one) != api.OK {
			t.Fatalf("P13.1: Add of number %d: %v", i+1, err)
		}
	}
	is(t, "P13.1: filled", y.x, y.p)
	return y
}

// good fails, unless Good is as it should be, and Add takes just that.
func good(t *testing.T, one Entry, want bool) {
	t.Helper()
	if got := Good(one); got != want {
		t.Errorf("P13.1: Good(%.300v): %v; want %v", one, got, want)
	}
	if want {
		newPair().add(t, one)
		return
	}
	newPair().refused(t, api.EARG, one)
	few(t).refused(t, api.EARG, one)
}

// The limits are as the tests take them.
func TestLimits(t *testing.T) {
	if api.MaxTime != top || api.MaxValue != long || api.MaxWrites != most {
		t.Fatalf("limits: %d, %d, %d", int64(api.MaxTime), api.MaxValue, api.MaxWrites)
	}
}

// P13.1: an ID from 1 on.
func TestGoodID(t *testing.T) {
	for _, id := range []int64{1, 2, 1 << 32, math.MaxInt64 - 1, math.MaxInt64} {
		good(t, e(id, at(5, 0), w("a", "x")), true)
	}
	for _, id := range []int64{0, -1, -2, -1 << 32, math.MinInt64 + 1, math.MinInt64} {
		good(t, e(id, at(5, 0), w("a", "x")), false)
	}
}

// P13.1: Snap and Stamp may be, and Stamp is above Snap.
func TestGoodStamps(t *testing.T) {
	for _, c := range []struct {
		snap, stamp api.Stamp
		want        bool
	}{
		// Each at its ends.
		{at(0, 0), at(0, 1), true}, {at(0, 0), at(1, 0), true}, {at(0, 255), at(1, 0), true}, {at(0, 0), at(top, 0), true}, {at(0, 0), at(top, 255), true},
		{at(top, 0), at(top, 1), true}, {at(top, 254), at(top, 255), true}, {at(top-1, 255), at(top, 0), true},
		// One that may not be.
		{at(-1, 0), at(0, 0), false}, {at(-1, 255), at(5, 0), false}, {at(math.MinInt64, 0), at(5, 0), false}, {at(math.MinInt64, 0), at(top, 255), false},
		{at(0, 0), at(top+1, 0), false}, {at(top, 255), at(top+1, 0), false}, {at(5, 0), at(math.MaxInt64, 255), false},
		{at(0, 0), at(-1, 0), false}, {at(top+1, 0), at(5, 0), false}, {at(math.MaxInt64, 0), at(top, 0), false}, {at(5, 0), at(math.MinInt64, 0), false},
		// Both.
		{at(-2, 0), at(-1, 0), false}, {at(top+1, 0), at(top+2, 0), false}, {at(top+1, 0), at(top+1, 1), false}, {at(math.MinInt64, 0), at(math.MaxInt64, 255), false},
		// Below, alike, above by Time or by Node alone.
		{at(5, 3), at(5, 3), false}, {at(0, 0), at(0, 0), false}, {at(top, 255), at(top, 255), false},
		{at(5, 3), at(5, 2), false}, {at(5, 3), at(5, 0), false}, {at(5, 3), at(4, 3), false}, {at(5, 3), at(4, 255), false}, {at(5, 0), at(4, 255), false}, {at(top, 0), at(0, 255), false},
		{at(5, 3), at(5, 4), true}, {at(5, 3), at(5, 255), true}, {at(5, 127), at(5, 128), true}, {at(5, 3), at(6, 3), true}, {at(5, 3), at(6, 0), true}, {at(5, 255), at(6, 0), true},
	} {
		good(t, Entry{ID: 1, Snap: c.snap, Stamp: c.stamp, Writes: []api.Write{w("a", "x")}}, c.want)
	}
}

// P13.1: none, one to MaxWrites, and more.
func TestGoodCounts(t *testing.T) {
	good(t, e(1, at(5, 0)), false)
	good(t, Entry{ID: 1, Stamp: at(5, 0), Writes: []api.Write{}}, false)
	good(t, Entry{}, false)
	for n := 1; n <= most; n++ {
		good(t, e(1, at(5, 0), many("n", n)...), true)
	}
	for _, n := range []int{most + 1, most + 2, 100, 1000} {
		good(t, e(1, at(5, 0), many("n", n)...), false)
	}
}

// P13.1: writes that may be, and that may not, wherever they stand.
func TestGoodWrites(t *testing.T) {
	tooLong := strings.Repeat("x", long+1)
	for _, c := range []struct {
		one  api.Write
		want bool
	}{
		{w("a", ""), true}, {w("a", "x"), true}, {w("a", "\x00"), true}, {w("a", strings.Repeat("x", long-1)), true}, {w("a", strings.Repeat("x", long)), true},
		{w("a", strings.Repeat("ä", long/2)), true}, {gone("a"), true}, {w("\x01", "x"), true}, {w("fifteen bytes..", "x"), true}, {w("sixteen bytes...", "x"), true}, {gone(strings.Repeat("\xff", 16)), true},
		{api.Write{}, false}, {w("", "x"), false}, {gone(""), false}, {w("\x00a", "x"), false}, {w("a\x00b", "x"), false}, {gone("a\x00b"), false},
		{w("a"+strings.Repeat("\x00", 14)+"b", "x"), false}, {w(strings.Repeat("\x00", 15)+"b", "x"), false},
		{w("a", tooLong), false}, {w("a", strings.Repeat("ä", long/2)+"x"), false}, {w("a", strings.Repeat("x", 1<<20)), false},
		{api.Write{Key: k("a"), Value: "x", Gone: true}, false}, {api.Write{Key: k("a"), Value: "\x00", Gone: true}, false}, {api.Write{Key: k("a"), Value: tooLong, Gone: true}, false},
	} {
		for _, n := range []int{1, 3, most} {
			for _, place := range places(n) {
				good(t, e(1, at(5, 0), with(n, place, c.one)...), c.want)
			}
		}
	}
}

// P13.1: a key that stands twice, side by side and apart.
func TestGoodTwice(t *testing.T) {
	for _, both := range [][2]api.Write{{w("a", "x"), w("a", "x")}, {w("a", "x"), w("a", "")}, {w("a", "x"), gone("a")}, {gone("a"), gone("a")}} {
		for _, n := range []int{2, 3, most} {
			for i := range n {
				for j := range i {
					l := with(n, i, both[0])
					l[j] = both[1]
					good(t, e(1, at(5, 0), l...), false)
				}
			}
		}
	}
	good(t, e(1, at(5, 0), w("a", "x"), w("aa", "x"), w("A", "x"), w("a ", "x"), w("sixteen bytes...", ""), w("sixteen bytes..", "")), true)
}

// P13.1: Writes are good just where store's Apply takes them.
func TestGoodAsApply(t *testing.T) {
	r := rand.New(rand.NewSource(13))
	seen := map[bool]int{}
	for range 3000 {
		one := anyEntry(r, 40)
		one.ID, one.Snap, one.Stamp = 1, at(4, 0), at(5, 0)
		taken := store.New().Apply(at(5, 0), one.Writes...) == api.OK
		if Good(one) != taken {
			t.Fatalf("P13.1: Good(%v): %v; Apply takes it: %v", one, !taken, taken)
		}
		seen[taken]++
	}
	if seen[true] == 0 || seen[false] == 0 {
		t.Errorf("drawn: %v", seen)
	}
}

// P13.1, R2: a new one has nothing.
func TestEmpty(t *testing.T) {
	y := newPair()
	is(t, "a new one", y.x, y.p)
	for _, id := range []int64{math.MinInt64, -1, 0, 1, math.MaxInt64} {
		y.drop(t, id, false)
	}
	if s, ok := y.x.Least(); s != at(0, 0) || ok {
		t.Errorf("P13.1: Least of none: %v, %v", s, ok)
	}
	if n := len(y.x.All()); n != 0 {
		t.Errorf("P13.1: All of none: %d", n)
	}
}

// P13.1: the chapter's example.
func TestExample(t *testing.T) {
	x := New()
	if err := x.Add(Entry{ID: 1, Stamp: at(5, 0), Writes: []api.Write{w("k", "v")}}); err != api.OK {
		t.Fatalf("P13.1: Add with Stamp 5.0: %v", err)
	}
	if id, ok := x.Blocks(k("k"), at(4, 9)); id != 0 || ok {
		t.Errorf("P13.1: Blocks at 4.9: %d, %v", id, ok)
	}
	if id, ok := x.Blocks(k("k"), at(5, 0)); id != 1 || !ok {
		t.Errorf("P13.1: Blocks at 5.0: %d, %v", id, ok)
	}
}

// P13.1: an ID that is there: EEXIST, whatever else it has.
func TestAddAgain(t *testing.T) {
	y := few(t)
	y.refused(t, api.EEXIST, e(7, at(5, 3), w("b", "b5"), gone("a"), w("c", "")))
	y.refused(t, api.EEXIST, e(7, at(5, 3), w("new", "")))
	y.refused(t, api.EEXIST, e(7, at(8, 0), w("b", "other")))
	y.refused(t, api.EEXIST, e(3, at(9, 0), gone("d")))
	y.refused(t, api.EEXIST, e(3, at(top, 255), many("n", most)...))
	y.refused(t, api.EEXIST, e(12, at(2, 0), w("new", "")))
	y.add(t, e(1, at(5, 3), w("new", "")), e(math.MaxInt64, at(5, 3), w("newer", "")), e(8, at(5, 3), w("newest", "")))
	y.refused(t, api.EEXIST, e(math.MaxInt64, at(6, 0), w("other", "")))
	y.refused(t, api.EEXIST, e(1, at(6, 0), w("other", "")))
}

// P13.1: a key that another one has: ECONFLICT, wherever it stands with either
// of them, whatever is written, and whenever.
func TestAddConflict(t *testing.T) {
	for _, theirs := range []string{"b", "a", "c", "d", "m0", "m8", "m15"} {
		y := few(t)
		for _, one := range []api.Write{w(theirs, ""), w(theirs, "b5"), gone(theirs)} {
			for _, n := range []int{1, 2, 3, most} {
				for _, place := range places(n) {
					l := many("n", n)
					l[place] = one
					for _, when := range []api.Stamp{at(1, 8), at(5, 3), at(top, 255)} {
						y.refused(t, api.ECONFLICT, e(1, when, l...))
						y.refused(t, api.ECONFLICT, e(99, when, l...))
					}
				}
			}
		}
	}
	y := few(t)
	y.refused(t, api.ECONFLICT, e(1, at(6, 0), w("a", ""), w("d", ""), w("m3", "")))
	y.add(t, e(1, at(6, 0), w("A", ""), w("aa", ""), w("m", ""), w("m16", "")))
}

// P13.1: a hundred, and one more: EFULL.
func TestAddFull(t *testing.T) {
	for _, id := range []int64{1, 5, 495, 1001, math.MaxInt64} {
		y := filled(t, entries-1)
		y.add(t, e(id, at(7, 7), many("last", most)...))
		if n := len(y.x.All()); n != entries {
			t.Fatalf("P13.1: %d entries; want %d", n, entries)
		}
		for _, other := range []int64{2, 15, 496, 1002, math.MaxInt64 - 1} {
			y.refused(t, api.EFULL, e(other, at(5, 0), w("new", "")))
			y.refused(t, api.EFULL, e(other, at(5, 0), many("new", most)...))
		}
		y.drop(t, 500, true)
		y.add(t, e(2, at(5, 0), w("new", "")))
		y.refused(t, api.EFULL, e(500, at(5, 0), w("k49", "")))
	}
}

// P13.1: a hundred of MaxWrites each.
func TestAddFullOfWrites(t *testing.T) {
	y := newPair()
	for i := range entries {
		one := e(int64(entries-i), at(int64(i+2), 0), many("n"+strconv.Itoa(i)+".", most)...)
		if err := y.x.Add(one); err != api.OK || y.p.add(one) != api.OK {
			t.Fatalf("P13.1: Add of number %d: %v", i+1, err)
		}
	}
	is(t, "P13.1: all writes", y.x, y.p)
	y.refused(t, api.EFULL, e(101, at(5, 0), many("new", most)...))
	y.refused(t, api.ECONFLICT, e(101, at(5, 0), append(many("new", most-1), gone("n99.15"))...))
}

// P13.1, R6: EARG ahead of EEXIST ahead of ECONFLICT ahead of EFULL.
func TestAddErrorsInOrder(t *testing.T) {
	for _, n := range []int{entries - 1, entries} {
		y := filled(t, n)
		bads := []Entry{
			e(10, at(1, 7), w("k5", "")), e(10, at(-1, 0), w("k5", "")), e(10, at(top+1, 0), w("k5", "")), e(10, at(5, 0)), e(10, at(5, 0), append(many("n", most), w("k5", ""))...),
			e(10, at(5, 0), w("k5", ""), w("", "")), e(10, at(5, 0), w("k5", ""), w("k5", "")), e(10, at(5, 0), w("k5", strings.Repeat("x", long+1))), e(10, at(5, 0), api.Write{Key: k("k5"), Value: "x", Gone: true}),
		}
		for _, one := range bads {
			y.refused(t, api.EARG, one) // EEXIST, and ECONFLICT, too
			one.ID = 11
			y.refused(t, api.EARG, one) // ECONFLICT, too
			one.ID = 0
			y.refused(t, api.EARG, one)
		}
		y.refused(t, api.EARG, e(11, at(5, 0), w("new", ""), w("\x00", "x")))
		y.refused(t, api.EEXIST, e(10, at(5, 0), w("k5", "")))
		y.refused(t, api.EEXIST, e(10, at(5, 0), w("k0", "")))
		y.refused(t, api.EEXIST, e(10, at(5, 0), w("new", "")))
		y.refused(t, api.ECONFLICT, e(11, at(5, 0), w("k5", "")))
		y.refused(t, api.ECONFLICT, e(11, at(5, 0), append(many("n", most-1), w("k98", ""))...))
	}
}

// P13.1: an ID and keys that were dropped can be added again, by themselves
// and by others.
func TestAddBehindDrop(t *testing.T) {
	y := few(t)
	y.drop(t, 7, true)
	y.add(t, e(7, at(5, 3), w("b", "b5"), gone("a"), w("c", "")))
	y.drop(t, 7, true)
	y.add(t, e(7, at(6, 0), w("x", "")), e(4, at(2, 0), w("c", "c2"), w("b", "")))
	y.refused(t, api.ECONFLICT, e(5, at(6, 0), w("a", ""), w("b", "")))
	y.add(t, e(5, at(6, 0), w("a", "")))
	y.drop(t, 12, true)
	y.refused(t, api.ECONFLICT, e(12, at(6, 0), append(many("m", most-1), w("d", ""))...))
	y.add(t, e(13, at(6, 0), many("m", most)...))
	y.refused(t, api.ECONFLICT, e(12, at(6, 0), w("m15", "")))
}

// P13.1: Has and Drop of those that are there, that are not, and that were.
func TestHasAndDrop(t *testing.T) {
	for _, id := range []int64{3, 7, 12} {
		y := few(t)
		for _, other := range []int64{math.MinInt64, -7, -1, 0, 1, 2, 4, 6, 8, 11, 13, math.MaxInt64} {
			if got, ok := y.x.Has(other); ok || !same(got, Entry{}) || got.Writes != nil {
				t.Errorf("P13.1: Has(%d): %v, %v", other, got, ok)
			}
			y.drop(t, other, false)
		}
		y.drop(t, id, true)
		y.drop(t, id, false)
		if n := len(y.x.All()); n != 2 {
			t.Errorf("P13.1: %d entries behind a Drop; want 2", n)
		}
	}
	y := few(t)
	want := Entry{ID: 7, Snap: at(1, 7), Stamp: at(5, 3), Writes: []api.Write{w("b", "b5"), gone("a"), w("c", "")}}
	if got, ok := y.x.Has(7); !ok || !same(got, want) {
		t.Errorf("P13.1: Has(7): %v, %v; want %v", got, ok, want)
	}
	if got, ok := y.x.Drop(7); !ok || !same(got, want) {
		t.Errorf("P13.1: Drop(7): %v, %v; want %v", got, ok, want)
	}
	if got, ok := y.x.Drop(7); ok || !same(got, Entry{}) {
		t.Errorf("P13.1: Drop(7) again: %v, %v", got, ok)
	}
}

// P13.1: Holder by hand.
func TestHolder(t *testing.T) {
	y := few(t)
	for s, want := range map[string]int64{
		"a": 7, "b": 7, "c": 7, "d": 3, "m0": 12, "m7": 12, "m15": 12,
		"": 0, "e": 0, "aa": 0, "A": 0, "m": 0, "m16": 0, "a\x00b": 0, "\x00a": 0,
	} {
		if id, ok := y.x.Holder(k(s)); id != want || ok != (want > 0) {
			t.Errorf("P13.1: Holder(%q): %d, %v; want %d", s, id, ok, want)
		}
	}
	y.x.Drop(7)
	y.x.Drop(12)
	for s, want := range map[string]int64{"a": 0, "b": 0, "c": 0, "d": 3, "m0": 0, "m15": 0} {
		if id, ok := y.x.Holder(k(s)); id != want || ok != (want > 0) {
			t.Errorf("P13.1: Holder(%q) behind a Drop: %d, %v; want %d", s, id, ok, want)
		}
	}
}

// P13.1: Blocks by hand, also at stamps that may not be.
func TestBlocks(t *testing.T) {
	y := few(t)
	for _, c := range []struct {
		k    string
		at   api.Stamp
		want int64
	}{
		{"a", at(math.MinInt64, 255), 0}, {"a", at(-1, 255), 0}, {"a", at(0, 0), 0}, {"a", at(1, 7), 0}, {"a", at(4, 3), 0}, {"a", at(4, 255), 0}, {"a", at(5, 0), 0}, {"a", at(5, 2), 0},
		{"a", at(5, 3), 7}, {"a", at(5, 4), 7}, {"a", at(5, 255), 7}, {"a", at(6, 0), 7}, {"a", at(top, 0), 7}, {"a", at(top+1, 0), 7}, {"a", at(math.MaxInt64, 255), 7},
		{"b", at(5, 2), 0}, {"b", at(5, 3), 7}, {"c", at(5, 2), 0}, {"c", at(5, 3), 7},
		{"d", at(5, 3), 0}, {"d", at(8, 255), 0}, {"d", at(9, 0), 3},
		{"m0", at(5, 1), 0}, {"m0", at(5, 2), 12}, {"m15", at(5, 1), 0}, {"m15", at(5, 2), 12},
		{"e", at(9, 0), 0}, {"e", at(math.MaxInt64, 255), 0}, {"", at(top, 255), 0}, {"a\x00b", at(top, 255), 0}, {"\x00a", at(math.MaxInt64, 255), 0},
	} {
		if id, ok := y.x.Blocks(k(c.k), c.at); id != c.want || ok != (c.want > 0) {
			t.Errorf("P13.1: Blocks(%q, %v): %d, %v; want %d", c.k, c.at, id, ok, c.want)
		}
	}
	y.x.Drop(7)
	if id, ok := y.x.Blocks(k("a"), at(top, 255)); id != 0 || ok {
		t.Errorf("P13.1: Blocks behind a Drop: %d, %v", id, ok)
	}
}

// P13.1: Least of one, of many in any order, behind Drops, and where two have
// it.
func TestLeast(t *testing.T) {
	stamps := []api.Stamp{at(1, 8), at(2, 0), at(2, 1), at(2, 1), at(2, 255), at(3, 0), at(3, 0), at(top, 255)}
	r := rand.New(rand.NewSource(3))
	for range 30 {
		x := New()
		left := stamps
		first := len(stamps)
		for _, i := range r.Perm(len(stamps)) {
			first = min(first, i)
			// The lower the stamp, the higher the ID: it is not the first one.
			if err := x.Add(e(int64(100-i), stamps[i], w("k"+strconv.Itoa(i), ""))); err != api.OK {
				t.Fatalf("P13.1: Add: %v", err)
			}
			if got, ok := x.Least(); got != stamps[first] || !ok {
				t.Fatalf("P13.1: Least: %v, %v; want %v", got, ok, stamps[first])
			}
		}
		for i := range stamps {
			if got, ok := x.Least(); got != left[0] || !ok {
				t.Fatalf("P13.1: Least behind %d Drops: %v, %v; want %v", i, got, ok, left[0])
			}
			x.Drop(int64(100 - i))
			left = left[1:]
		}
		if got, ok := x.Least(); got != at(0, 0) || ok {
			t.Fatalf("P13.1: Least of none any more: %v, %v", got, ok)
		}
	}
}

// P13.1: Least does not go by ID, nor by Snap, and a Drop of another one
// leaves it.
func TestLeastByHand(t *testing.T) {
	x := New()
	x.Add(Entry{ID: 1, Snap: at(0, 0), Stamp: at(9, 1), Writes: many("a", 1)})
	x.Add(Entry{ID: 2, Snap: at(7, 0), Stamp: at(9, 0), Writes: many("b", 1)})
	x.Add(Entry{ID: 3, Snap: at(3, 0), Stamp: at(9, 0), Writes: many("c", 1)})
	x.Add(Entry{ID: 4, Snap: at(0, 0), Stamp: at(10, 0), Writes: many("d", 1)})
	for _, c := range []struct {
		drop int64
		want api.Stamp
		ok   bool
	}{{9, at(9, 0), true}, {2, at(9, 0), true}, {4, at(9, 0), true}, {3, at(9, 1), true}, {1, at(0, 0), false}} {
		x.Drop(c.drop)
		if got, ok := x.Least(); got != c.want || ok != c.ok {
			t.Errorf("P13.1: Least behind Drop(%d): %v, %v; want %v", c.drop, got, ok, c.want)
		}
	}
}

// P13.1: All rises by ID, in whichever order they were added.
func TestAll(t *testing.T) {
	ids := []int64{1, 2, 3, 9, 10, 11, 255, 256, 1 << 31, 1 << 32, 1<<32 + 1, math.MaxInt64 - 1, math.MaxInt64}
	r := rand.New(rand.NewSource(4))
	for range 30 {
		y := newPair()
		for _, i := range r.Perm(len(ids)) {
			y.add(t, e(ids[i], at(int64(100-i), 0), many("k"+strconv.Itoa(i)+".", 1+i%4)...))
		}
		var got []int64
		for _, one := range y.x.All() {
			got = append(got, one.ID)
		}
		if !slices.Equal(got, ids) {
			t.Fatalf("P13.1: All: %v; want %v", got, ids)
		}
		for _, i := range r.Perm(len(ids)) {
			y.drop(t, ids[i], true)
		}
	}
}

// R5: two tables know nothing of each other.
func TestTwoTables(t *testing.T) {
	y, z := few(t), newPair()
	is(t, "the other one", z.x, z.p)
	z.add(t, e(7, at(2, 0), w("a", "mine"), w("mine", "")))
	is(t, "the one", y.x, y.p)
	y.add(t, e(8, at(3, 0), w("mine", "")))
	y.drop(t, 7, true)
	is(t, "the other one", z.x, z.p)
}

// R4: the list that is handed to Good and to Add is as it was, spare room
// included, and is not kept.
func TestListOfWrites(t *testing.T) {
	y := few(t)
	room := []api.Write{w("z", "z"), w("x", "x"), gone("y"), w("v", strings.Repeat("v", long)), w("spare", "s"), {Value: "spare", Gone: true}}
	was := slices.Clone(room)
	for _, c := range []struct {
		id   int64
		n    int
		want api.Errno
	}{{0, 4, api.EARG}, {1, 6, api.EARG}, {7, 4, api.EEXIST}, {1, 4, api.OK}, {2, 4, api.ECONFLICT}} {
		one := e(c.id, at(6, 0), room[:c.n]...)
		Good(one)
		err, want := y.x.Add(one), y.p.add(e(c.id, at(6, 0), was[:c.n]...))
		if err != c.want || want != c.want {
			t.Fatalf("P13.1: Add of %d: %v; want %v", c.id, err, c.want)
		}
		if !slices.Equal(room, was) {
			t.Fatalf("R4: Add of %d changed the list: %v", c.id, room)
		}
	}
	for i := range room {
		room[i] = w("over", "written")
	}
	is(t, "R4: the list was written into", y.x, y.p)
}

// over writes into all of a list, spare room too.
func over(l []api.Write) {
	for i := range l[:cap(l)] {
		l[:cap(l)][i] = w("over", "written")
	}
}

// R4: what is written into an answer, or into the room behind it, changes
// neither the table nor another answer.
func TestAnswersAreNewMemory(t *testing.T) {
	y := few(t)
	early, _ := y.x.Has(7)
	first := y.x.All()
	want := []Entry{}
	for _, one := range y.p.all() {
		want = append(want, deep(one))
	}
	for range 2 {
		for _, id := range []int64{3, 7, 12} {
			got, _ := y.x.Has(id)
			over(got.Writes)
			is(t, "R4: Has was written into", y.x, y.p)
		}
		for i := range 3 {
			l := y.x.All()
			over(l[i].Writes)
			for j := range 3 {
				if j != i && !same(l[j], want[j]) {
					t.Fatalf("R4: two lists of All share memory: %v", l)
				}
			}
			l = l[:cap(l)]
			for j := range l {
				l[j] = e(99, at(99, 0))
			}
			is(t, "R4: All was written into", y.x, y.p)
		}
	}
	if !same(early, want[1]) || !slices.EqualFunc(first, want, same) {
		t.Errorf("R4: an answer changed: %v %v", early, first)
	}
}

// R4: what Drop answers is the caller's alone.
func TestDropIsNewMemory(t *testing.T) {
	y := filled(t, entries)
	var got, want []Entry
	for id := int64(10); id <= 10*entries; id += 20 {
		one, _ := y.x.Drop(id)
		was, _ := y.p.drop(id)
		got, want = append(got, one), append(want, deep(was))
	}
	is(t, "dropped", y.x, y.p)
	for i := range entries / 2 {
		y.add(t, e(int64(i+1)*10+5, at(5, 0), w("new"+strconv.Itoa(i), "new")))
	}
	if !slices.EqualFunc(got, want, same) {
		t.Fatalf("R4: what Drop answered changed: %v", got)
	}
	for _, one := range got {
		over(one.Writes)
	}
	is(t, "R4: Drop was written into", y.x, y.p)

	// What was told of one that is dropped later is as it was.
	early, _ := y.x.Has(15)
	late, _ := y.x.Drop(15)
	over(late.Writes)
	if was, _ := y.p.drop(15); !same(early, was) {
		t.Errorf("R4: what Has answered changed: %v; want %v", early, was)
	}
}

// P13.1: an entry that the table told can be added again as it is.
func TestAddOfAnswers(t *testing.T) {
	y := few(t)
	other := newPair()
	for _, one := range y.x.All() {
		other.add(t, one)
	}
	for _, id := range []int64{12, 3, 7} {
		one, _ := y.x.Drop(id)
		if err := y.x.Add(one); err != api.OK {
			t.Errorf("P13.1: Add of what Drop told: %v", err)
		}
	}
	is(t, "added again", y.x, y.p)
	is(t, "another one", other.x, y.p)
}

// anyEntry draws an entry of few keys, seldom one that may not be.
func anyEntry(r *rand.Rand, keys int) Entry {
	snap := at(int64(r.Intn(20)), uint8(r.Intn(3)))
	one := Entry{ID: int64(1 + r.Intn(200)), Snap: snap, Stamp: at(snap.Time+int64(r.Intn(9)), uint8(r.Intn(3)))}
	if r.Intn(3) > 0 {
		one.Stamp.Time++
	}
	for range 1 + r.Intn(3) {
		x := w("k"+strconv.Itoa(r.Intn(keys)), strings.Repeat("v", r.Intn(4)))
		switch r.Intn(40) {
		case 0:
			x.Value = strings.Repeat("x", long+r.Intn(3)-1)
		case 1:
			x.Value, x.Gone = "x", true
		case 2:
			x.Key = []api.Key{{}, k("\x00a"), k("a\x00b"), k("sixteen bytes...")}[r.Intn(4)]
		case 3, 4, 5, 6, 7, 8:
			x.Value, x.Gone = "", true
		}
		one.Writes = append(one.Writes, x)
	}
	switch r.Intn(60) {
	case 0:
		one.ID = int64(-r.Intn(2))
	case 1:
		one.Snap.Time = -1
	case 2:
		one.Stamp.Time = top + int64(r.Intn(2))
	case 3:
		one.Writes = many("k", r.Intn(most+2))
	}
	return one
}

// P13.1: calls in any order, held against a table that keeps no order: of few
// keys, which many want, and of many, so that the table is full at times.
func TestAny(t *testing.T) {
	r := rand.New(rand.NewSource(1))
	seen := map[api.Errno]int{}
	for round, keys := range []int{2, 5, 20, 60, 200, 2000, 100000, 100000} {
		y := newPair()
		for step := range 600 {
			if r.Intn(10) < 2 {
				id := int64(r.Intn(202))
				got, ok := y.x.Drop(id)
				if want, wantOk := y.p.drop(id); !same(got, want) || ok != wantOk {
					t.Fatalf("P13.1: round %d, step %d: Drop(%d): %v, %v; want %v, %v", round, step, id, got, ok, want, wantOk)
				}
			} else {
				one := anyEntry(r, keys)
				got, want := y.x.Add(one), y.p.add(one)
				if got != want || Good(one) == bad(one) {
					t.Fatalf("P13.1: round %d, step %d: Add(%v): %v; want %v", round, step, one, got, want)
				}
				seen[got]++
			}
			if step%10 == 0 {
				is(t, "any calls", y.x, y.p)
			}
		}
		is(t, "any calls", y.x, y.p)
	}
	for _, err := range []api.Errno{api.OK, api.EARG, api.EEXIST, api.ECONFLICT, api.EFULL} {
		if seen[err] == 0 {
			t.Errorf("no Add was answered %v", err)
		}
	}
}
