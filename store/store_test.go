package store

import (
	"math"
	"math/rand"
	"slices"
	"strconv"
	"strings"
	"testing"

	"hourglass/api"
	"hourglass/chain"
)

const (
	top     = 36028797018963967 // MaxTime, in digits
	long    = 200               // MaxValue
	writes  = 16                // MaxWrites
	allKeys = 200               // MaxKeys
	deep    = 50                // MaxChain
)

func at(time int64, node uint8) api.Stamp { return api.Stamp{Time: time, Node: node} }

// k is the bytes of a text, and noughts behind it, also where that may not be
// a key.
func k(s string) api.Key {
	var x api.Key
	copy(x[:], s)
	return x
}

func w(s, v string) api.Write { return api.Write{Key: k(s), Value: v} }

func gone(s string) api.Write { return api.Write{Key: k(s), Gone: true} }

func val(time int64, node uint8, s string) chain.Version {
	return chain.Version{Stamp: at(time, node), Value: s}
}

func goneAt(time int64, node uint8) chain.Version {
	return chain.Version{Stamp: at(time, node), Gone: true}
}

// many is n writes to unlike keys.
func many(n int) []api.Write {
	var l []api.Write
	for i := range n {
		l = append(l, w("m"+strconv.Itoa(i), "v"+strconv.Itoa(i)))
	}
	return l
}

// places are the first, a middle and the last of n.
func places(n int) []int { return slices.Compact([]int{0, n / 2, n - 1}) }

// above compares by hand: by Time, then Node.
func above(a, b api.Stamp) bool {
	return a.Time > b.Time || a.Time == b.Time && a.Node > b.Node
}

// below compares by hand: by the first byte that is unlike.
func below(a, b api.Key) bool {
	for i := range a {
		if a[i] != b[i] {
			return a[i] < b[i]
		}
	}
	return false
}

// row is a version and its key.
type row struct {
	k api.Key
	v chain.Version
}

// plain is a store that keeps one list in no order, and goes through all of
// it at each call.
type plain struct{ rows []row }

func mayBe(x api.Key) bool {
	s := strings.TrimRight(string(x[:]), "\x00")
	return s != "" && !strings.Contains(s, "\x00")
}

func (p *plain) bad(s api.Stamp, l []api.Write) bool {
	bad := s.Time < 0 || s.Time > top || len(l) == 0 || len(l) > writes
	for i, a := range l {
		bad = bad || !mayBe(a.Key) || len(a.Value) > long || a.Gone && len(a.Value) > 0
		for _, b := range l[:i] {
			bad = bad || a.Key == b.Key
		}
	}
	return bad
}

func (p *plain) apply(s api.Stamp, l ...api.Write) api.Errno {
	if p.bad(s, l) {
		return api.EARG
	}
	full, news := false, 0
	for _, a := range l {
		c := p.chain(a.Key)
		for _, v := range c {
			if v.Stamp == s {
				return api.EEXIST
			}
		}
		full = full || len(c) == deep
		if len(c) == 0 {
			news++
		}
	}
	if full || len(p.keys())+news > allKeys {
		return api.EFULL
	}
	for _, a := range l {
		p.rows = append(p.rows, row{a.Key, chain.Version{Stamp: s, Value: a.Value, Gone: a.Gone}})
	}
	return api.OK
}

func (p *plain) chain(x api.Key) []chain.Version {
	var l []chain.Version
	for _, r := range p.rows {
		if r.k == x {
			l = append(l, r.v)
		}
	}
	slices.SortFunc(l, func(a, b chain.Version) int {
		if above(a.Stamp, b.Stamp) {
			return 1
		}
		return -1
	})
	return l
}

func (p *plain) seen(x api.Key, s api.Stamp) (chain.Version, bool) {
	var best chain.Version
	found := false
	for _, r := range p.rows {
		if r.k == x && !above(r.v.Stamp, s) && (!found || above(r.v.Stamp, best.Stamp)) {
			best, found = r.v, true
		}
	}
	return best, found
}

func (p *plain) get(x api.Key, s api.Stamp) (string, bool) {
	v, ok := p.seen(x, s)
	return v.Value, ok && !v.Gone
}

func (p *plain) keys() []api.Key {
	var l []api.Key
	for _, r := range p.rows {
		if !slices.Contains(l, r.k) {
			l = append(l, r.k)
		}
	}
	slices.SortFunc(l, func(a, b api.Key) int {
		if below(a, b) {
			return -1
		}
		return 1
	})
	return l
}

func (p *plain) scan(from, to api.Key, s api.Stamp, most int) []api.Item {
	var l []api.Item
	for _, x := range p.keys() {
		v, ok := p.get(x, s)
		if ok && !below(x, from) && (to == api.Key{} || below(x, to)) && len(l) < most {
			l = append(l, api.Item{Key: x, Value: v})
		}
	}
	return l
}

func (p *plain) newest(x api.Key) (api.Stamp, bool) {
	v, ok := p.seen(x, at(math.MaxInt64, 255))
	return v.Stamp, ok
}

func (p *plain) trim(s api.Stamp) int {
	var left []row
	for _, r := range p.rows {
		seen, ok := p.seen(r.k, s)
		if !ok || above(r.v.Stamp, seen.Stamp) || r.v == seen && !seen.Gone {
			left = append(left, r)
		}
	}
	n := len(p.rows) - len(left)
	p.rows = left
	return n
}

// stampsOf are stamps at, and just around, those of a plain one, each once,
// and at the ends.
func stampsOf(p *plain) []api.Stamp {
	l := []api.Stamp{at(math.MinInt64, 0), at(-1, 255), at(0, 0), at(top, 255), at(top+1, 0), at(math.MaxInt64, 255)}
	for _, r := range p.rows {
		s := r.v.Stamp
		l = append(l, s, at(s.Time, s.Node-1), at(s.Time, s.Node+1), at(s.Time-1, 255), at(s.Time+1, 0))
	}
	slices.SortFunc(l, func(a, b api.Stamp) int {
		if above(a, b) {
			return 1
		}
		if above(b, a) {
			return -1
		}
		return 0
	})
	return slices.Compact(l)
}

// others are keys that seldom are there, and some that may not be.
func others() []api.Key {
	return []api.Key{{}, k("\x01"), k("absent"), k("\x00a"), k("a\x00b"), k("\xff"), k(strings.Repeat("\xff", 16))}
}

// holds fails, unless the store has just the keys and the versions of the
// plain one.
func holds(t *testing.T, what string, s *Store, p *plain) {
	t.Helper()
	want := p.keys()
	if got := s.Keys(); !slices.Equal(got, want) {
		t.Fatalf("%s: Keys: %s; want %s", what, got, want)
	}
	for _, x := range append(others(), want...) {
		if got := s.Chain(x); !slices.Equal(got, p.chain(x)) {
			t.Fatalf("%s: Chain(%q): %v; want %v", what, x, got, p.chain(x))
		}
		n, ok := s.Newest(x)
		if wantN, wantOk := p.newest(x); n != wantN || ok != wantOk {
			t.Fatalf("%s: Newest(%q): %v, %v; want %v, %v", what, x, n, ok, wantN, wantOk)
		}
	}
}

// is fails, unless each call of the store tells the same as the plain one.
func is(t *testing.T, what string, s *Store, p *plain) {
	t.Helper()
	holds(t, what, s, p)
	ends := append(others(), p.keys()...)
	for i, when := range stampsOf(p) {
		for _, x := range ends {
			v, ok := s.Get(x, when)
			if wantV, wantOk := p.get(x, when); v != wantV || ok != wantOk {
				t.Fatalf("%s: Get(%q, %v): %q, %v; want %q, %v", what, x, when, v, ok, wantV, wantOk)
			}
		}
		from, to := ends[i%len(ends)], ends[i*7%len(ends)]
		for _, most := range []int{math.MinInt, -1, 0, 1, 2, i % 9, math.MaxInt} {
			sameItems(t, what, s, p, api.Key{}, api.Key{}, when, most)
			sameItems(t, what, s, p, from, to, when, most)
		}
	}
}

func sameItems(t *testing.T, what string, s *Store, p *plain, from, to api.Key, when api.Stamp, most int) {
	t.Helper()
	got, want := s.Scan(from, to, when, most), p.scan(from, to, when, most)
	if !slices.Equal(got, want) {
		t.Fatalf("%s: Scan(%q, %q, %v, %d): %v; want %v", what, from, to, when, most, got, want)
	}
}

// pair is a store, and a plain one that is told the same.
type pair struct {
	s *Store
	p *plain
}

func newPair() pair { return pair{New(), &plain{}} }

// apply is an Apply that is well, and that changes what is told as it should.
func (x pair) apply(t *testing.T, when api.Stamp, l ...api.Write) {
	t.Helper()
	want := x.p.apply(when, l...)
	if err := x.s.Apply(when, l...); err != api.OK || want != api.OK {
		t.Fatalf("P12.1: Apply(%v, %.200v): %v; want %v", when, l, err, want)
	}
	holds(t, "applied", x.s, x.p)
}

// refused fails, unless Apply answers that error and changes nothing.
func (x pair) refused(t *testing.T, want api.Errno, when api.Stamp, l ...api.Write) {
	t.Helper()
	if err := x.s.Apply(when, l...); err != want {
		t.Fatalf("P12.1: Apply(%v, %.200v): %v; want %v", when, l, err, want)
	}
	holds(t, "R3: an Apply that is refused", x.s, x.p)
	if err := x.p.apply(when, l...); err != want {
		t.Fatalf("the plain one: %v; want %v", err, want)
	}
}

// trim is a Trim, and how many should go.
func (x pair) trim(t *testing.T, when api.Stamp, want int) {
	t.Helper()
	p := x.p.trim(when)
	if n := x.s.Trim(when); n != want || p != want {
		t.Fatalf("P12.1: Trim(%v): %d; want %d (the plain one: %d)", when, n, want, p)
	}
	is(t, "trimmed", x.s, x.p)
}

// few is a store of some keys with versions of all kinds.
func few(t *testing.T) pair {
	t.Helper()
	x := newPair()
	x.apply(t, at(5, 3), w("b", "b5"), w("a", "a5"), w("e", ""))
	x.apply(t, at(2, 7), w("a", ""), w("c", "c2"), gone("d"))
	x.apply(t, at(5, 4), gone("a"), w("ab", "ab5"))
	x.apply(t, at(9, 0), w("a", "a9"), gone("b"), gone("c"), w("d", "d9"))
	x.apply(t, at(2, 6), w("b", strings.Repeat("b", long)), gone("c"))
	is(t, "few", x.s, x.p)
	return x
}

// fullChain is a store whose key `full` has MaxChain versions, at the Times
// 10, 20 .. and Node 5, and whose key `free` has one.
func fullChain(t *testing.T) pair {
	t.Helper()
	x := newPair()
	x.apply(t, at(10, 5), w("full", ""), w("free", ""))
	for i := 1; i < deep; i++ {
		x.apply(t, at(int64(10*(i+1)), 5), w("full", strconv.Itoa(i)))
	}
	return x
}

// keyed is a store of n keys with a version each, at 1.0.
func keyed(t *testing.T, n int) pair {
	t.Helper()
	x := newPair()
	for i := range n {
		l := w("n"+strconv.Itoa(i), strconv.Itoa(i))
		if err := x.s.Apply(at(1, 0), l); err != api.OK || x.p.apply(at(1, 0), l) != api.OK {
			t.Fatalf("P12.1: Apply to the new key %d: %v", i, err)
		}
	}
	holds(t, "keyed", x.s, x.p)
	return x
}

// The limits are as the tests take them.
func TestLimits(t *testing.T) {
	if api.MaxTime != top || api.MaxValue != long || api.MaxWrites != writes || api.MaxKeys != allKeys || api.MaxChain != deep {
		t.Fatalf("limits: %d, %d, %d, %d, %d", int64(api.MaxTime), api.MaxValue, api.MaxWrites, api.MaxKeys, api.MaxChain)
	}
}

// P12.1, R2: a new one has nothing.
func TestEmpty(t *testing.T) {
	x := newPair()
	is(t, "a new one", x.s, x.p)
	for _, when := range []api.Stamp{at(math.MinInt64, 0), at(-1, 0), at(0, 0), at(7, 7), at(top, 255), at(math.MaxInt64, 255)} {
		x.trim(t, when, 0)
	}
	is(t, "a copy of a new one", x.s.Copy(), x.p)
}

// P12.1: the chapter's example.
func TestExample(t *testing.T) {
	s := New()
	if err := s.Apply(at(2, 0), w("k", "value")); err != api.OK {
		t.Fatalf("P12.1: Apply at 2.0: %v", err)
	}
	if v, ok := s.Get(k("k"), at(1, 9)); v != "" || ok {
		t.Errorf("P12.1: Get at 1.9: %q, %v", v, ok)
	}
	if v, ok := s.Get(k("k"), at(2, 0)); v != "value" || !ok {
		t.Errorf("P12.1: Get at 2.0: %q, %v", v, ok)
	}
}

// P12.1: Apply at stamps that may be and that may not, with any Node.
func TestApplyStamps(t *testing.T) {
	good, bad := newPair(), few(t)
	for _, node := range []uint8{0, 1, 7, 8, 127, 128, 255} {
		for _, time := range []int64{0, 1, top - 1, top} {
			good.apply(t, at(time, node), w("a", "x"), gone("b"))
		}
		for _, time := range []int64{math.MinInt64, -top, -1, top + 1, math.MaxInt64} {
			bad.refused(t, api.EARG, at(time, node), w("a", "x"))
			bad.refused(t, api.EARG, at(time, node), w("new", ""), gone("b"))
		}
	}
	is(t, "many stamps", good.s, good.p)
}

// P12.1: Apply of no write, of one to MaxWrites, and of more.
func TestApplyCounts(t *testing.T) {
	for n := 1; n <= writes; n++ {
		x := newPair()
		x.apply(t, at(4, 2), many(n)...)
		if got := len(x.s.Keys()); got != n {
			t.Errorf("P12.1: Apply of %d writes: %d keys", n, got)
		}
		is(t, "counts", x.s, x.p)
	}
	for _, x := range []pair{newPair(), few(t)} {
		x.refused(t, api.EARG, at(4, 2))
		x.refused(t, api.EARG, at(4, 2), []api.Write{}...)
		for _, n := range []int{writes + 1, writes + 2, 100, allKeys + 1} {
			x.refused(t, api.EARG, at(4, 2), many(n)...)
		}
		x.refused(t, api.EARG, at(4, 2), make([]api.Write, 1<<11)...)
	}
}

// P12.1: writes that may be, at the edges, wherever they stand.
func TestApplyGoodWrites(t *testing.T) {
	for _, good := range []api.Write{
		w("a", ""), w("a", "x"), w("a", "\x00"), w("a", "\xff\xfe"), w("a", strings.Repeat("x", long-1)), w("a", strings.Repeat("x", long)),
		w("a", strings.Repeat("\x00", long)), w("a", strings.Repeat("ä", long/2)), gone("a"),
		w("\x01", "x"), w("\xff", "x"), w("fifteen bytes..", "x"), w("sixteen bytes...", "x"), gone("sixteen bytes..."), w(strings.Repeat("\xff", 16), ""),
	} {
		for _, n := range []int{1, 3, writes} {
			for _, place := range places(n) {
				l := many(n)
				l[place] = good
				x := newPair()
				x.apply(t, at(4, 2), l...)
				is(t, "good writes", x.s, x.p)
			}
		}
	}
}

// P12.1: writes that may not be, wherever they stand: EARG, and none of the
// others is written.
func TestApplyBadWrites(t *testing.T) {
	tooLong := strings.Repeat("x", long+1)
	for _, bad := range []api.Write{
		{}, {Value: "x"}, {Gone: true}, w("\x00a", "x"), w("a\x00b", "x"), gone("a\x00b"), w("a\x00\x00\x00\x00\x00\x00\x00\x00\x00\x00\x00\x00\x00\x00b", "x"), w("\x00\x00\x00\x00\x00\x00\x00\x00\x00\x00\x00\x00\x00\x00\x00b", "x"),
		w("a", tooLong), w("new", tooLong), w("a", strings.Repeat("\x00", long+1)), w("a", strings.Repeat("ä", long/2)+"x"), w("a", strings.Repeat("x", 1<<20)),
		{Key: k("a"), Value: "x", Gone: true}, {Key: k("new"), Value: "\x00", Gone: true}, {Key: k("a"), Value: strings.Repeat("x", long), Gone: true}, {Key: k("a"), Value: tooLong, Gone: true},
	} {
		for _, n := range []int{1, 3, writes} {
			for _, place := range places(n) {
				l := many(n)
				l[place] = bad
				newPair().refused(t, api.EARG, at(4, 2), l...)
				few(t).refused(t, api.EARG, at(4, 2), l...)
			}
		}
	}
}

// P12.1: a key that stands twice, side by side and apart, whatever is
// written to it.
func TestApplyTwice(t *testing.T) {
	for _, both := range [][2]api.Write{
		{w("a", "x"), w("a", "x")}, {w("a", "x"), w("a", "y")}, {w("a", ""), w("a", "")}, {w("a", ""), gone("a")}, {gone("a"), w("a", "x")}, {gone("a"), gone("a")},
		{w("new", "x"), w("new", "x")}, {w("new", "x"), w("new", "y")}, {w("sixteen bytes...", "x"), w("sixteen bytes...", "")},
	} {
		for _, n := range []int{2, 3, 4, writes} {
			for i := range n {
				for j := range i {
					l := many(n)
					l[j], l[i] = both[0], both[1]
					few(t).refused(t, api.EARG, at(4, 2), l...)
				}
			}
		}
	}
	x := newPair()
	x.apply(t, at(4, 2), w("a", "x"), w("b", "x"), w("aa", "x"), w("a ", "x"), w("A", "x"), w("sixteen bytes...", "x"), w("sixteen bytes..", "x"))
}

// P12.1: a key that has a version of that Stamp: EEXIST, wherever it stands
// among new ones, whatever is written to it.
func TestApplyAgain(t *testing.T) {
	for _, again := range []api.Write{w("a", "a5"), w("a", "other"), w("a", ""), gone("a"), w("e", ""), gone("e"), w("e", strings.Repeat("x", long))} {
		for _, n := range []int{1, 2, 3, writes} {
			for _, place := range places(n) {
				l := many(n)
				l[place] = again
				x := few(t)
				x.refused(t, api.EEXIST, at(5, 3), l...)
				x.apply(t, at(5, 2), l...)
			}
		}
	}
	x := few(t)
	x.refused(t, api.EEXIST, at(2, 7), w("d", "x"))
	x.refused(t, api.EEXIST, at(5, 4), gone("a"))
	x.refused(t, api.EEXIST, at(9, 0), w("c", "x"), w("b", "x"), w("a", "x"))
	// The Stamp is there, but at other keys.
	x.apply(t, at(5, 3), w("c", "x"), w("d", "x"), w("new", "x"))
	x.apply(t, at(5, 4), w("b", "x"))
	is(t, "other keys", x.s, x.p)
}

// P12.1: a key whose chain has MaxChain versions: EFULL, wherever it stands,
// and whenever it is written; those that were ahead of it had room.
func TestApplyFullChain(t *testing.T) {
	x := fullChain(t)
	is(t, "a full chain", x.s, x.p)
	for _, when := range []api.Stamp{at(0, 0), at(10, 4), at(10, 6), at(255, 0), at(10*deep, 6), at(top, 255)} {
		x.refused(t, api.EFULL, when, w("full", "x"))
		x.refused(t, api.EFULL, when, gone("full"))
		for _, n := range []int{2, 3, writes} {
			for _, place := range places(n) {
				l := many(n)
				l[(place+1)%n] = w("free", "x")
				l[place] = w("full", "x")
				x.refused(t, api.EFULL, when, l...)
			}
		}
	}
	x.apply(t, at(15, 0), w("free", "x"), w("new", "x"))
	x.trim(t, at(20, 5), 2)
	x.apply(t, at(10, 4), w("full", "room"))
	x.refused(t, api.EFULL, at(10, 5), w("full", "no room"))
}

// P12.1: new keys up to MaxKeys, and more: EFULL.
func TestApplyManyKeys(t *testing.T) {
	x := keyed(t, allKeys-2)
	x.refused(t, api.EFULL, at(1, 0), many(3)...)
	x.refused(t, api.EFULL, at(1, 0), many(writes)...)
	x.refused(t, api.EFULL, at(2, 0), w("n0", ""), w("x", ""), w("n1", ""), w("y", ""), w("z", ""))
	x.refused(t, api.EFULL, at(2, 0), w("x", ""), gone("y"), gone("z"))
	x.apply(t, at(2, 0), w("n0", ""), w("x", ""), w("n1", ""), w("y", ""), gone("n2"))
	if n := len(x.s.Keys()); n != allKeys {
		t.Fatalf("P12.1: %d keys; want %d", n, allKeys)
	}
	x.refused(t, api.EFULL, at(2, 0), w("z", ""))
	x.refused(t, api.EFULL, at(3, 0), gone("z"))
	for _, n := range []int{2, 3, writes} {
		for _, place := range places(n) {
			var l []api.Write
			for i := range n {
				l = append(l, w("n"+strconv.Itoa(100+i), "x"))
			}
			l[place] = w("z", "")
			x.refused(t, api.EFULL, at(3, 0), l...)
		}
	}
	x.apply(t, at(3, 0), w("n0", ""), w("x", ""), gone("y"))
	x.apply(t, at(0, 0), w("n0", "below"), gone("n1"))
}

// P12.1: MaxKeys keys, by MaxWrites at once as far as they go.
func TestApplyManyKeysAtOnce(t *testing.T) {
	x := newPair()
	var l []api.Write
	for i := range allKeys + 1 {
		l = append(l, w("key"+strconv.Itoa(i), ""))
	}
	for part := range slices.Chunk(l[:allKeys/writes*writes], writes) {
		x.apply(t, at(top, 255), part...)
	}
	x.refused(t, api.EFULL, at(top, 255), l[allKeys/writes*writes:]...)
	x.apply(t, at(top, 255), l[allKeys/writes*writes:allKeys]...)
	x.refused(t, api.EFULL, at(top, 255), l[allKeys])
}

// P12.1: a Trim that leaves a key without versions makes room for another.
func TestTrimMakesRoomForKeys(t *testing.T) {
	x := keyed(t, allKeys)
	x.apply(t, at(2, 0), gone("n7"), w("n8", ""), gone("n9"))
	x.apply(t, at(3, 0), w("n9", "back"))
	x.refused(t, api.EFULL, at(2, 0), w("z", ""))
	if n, p := x.s.Trim(at(1, 255)), x.p.trim(at(1, 255)); n != 0 || p != 0 {
		t.Fatalf("P12.1: Trim ahead of what is gone: %d, %d", n, p)
	}
	x.refused(t, api.EFULL, at(2, 0), w("z", ""))
	if n, p := x.s.Trim(at(2, 0)), x.p.trim(at(2, 0)); n != 5 || p != 5 {
		t.Fatalf("P12.1: Trim where some are gone: %d, %d", n, p)
	}
	holds(t, "trimmed", x.s, x.p)
	x.refused(t, api.EFULL, at(2, 0), w("z", ""), w("y", ""))
	x.apply(t, at(2, 0), w("z", ""))
	x.refused(t, api.EFULL, at(3, 0), w("n7", ""))
}

// P12.1, R6: EARG ahead of EEXIST ahead of EFULL, also where the later write
// has the earlier error.
func TestApplyErrorsInOrder(t *testing.T) {
	x := fullChain(t)
	when, fresh := at(10, 5), at(11, 5)
	bad := []api.Write{{Value: "x"}, w("a\x00b", ""), w("m0", strings.Repeat("x", long+1)), {Key: k("m0"), Value: "x", Gone: true}}
	for _, b := range bad {
		x.refused(t, api.EARG, when, w("free", ""), b)
		x.refused(t, api.EARG, when, b, w("free", ""))
		x.refused(t, api.EARG, fresh, w("full", ""), b)
		x.refused(t, api.EARG, fresh, b, w("full", ""))
		x.refused(t, api.EARG, when, w("full", ""), w("free", ""), b)
	}
	x.refused(t, api.EARG, when, w("free", ""), w("free", ""))
	x.refused(t, api.EARG, fresh, w("full", ""), w("full", ""))
	x.refused(t, api.EARG, fresh, append(many(writes), w("full", ""))...)
	x.refused(t, api.EARG, when, append(many(writes), w("free", ""))...)
	x.refused(t, api.EARG, at(-1, 5), w("full", ""))
	x.refused(t, api.EARG, at(top+1, 5), w("full", ""))
	x.refused(t, api.EEXIST, when, w("full", ""))
	x.refused(t, api.EEXIST, at(10*deep, 5), w("new", ""), gone("full"))

	// The Stamp is one that `free` has and the full chain has not.
	x.apply(t, fresh, w("free", ""))
	x.refused(t, api.EEXIST, fresh, w("full", ""), w("free", ""))
	x.refused(t, api.EEXIST, fresh, w("free", ""), w("full", ""))
	x.refused(t, api.EEXIST, fresh, append(append(many(writes-2), w("full", "")), w("free", ""))...)
	x.refused(t, api.EFULL, at(12, 5), w("free", ""), w("full", ""))
}

// P12.1, R6: the same where only the count of keys is at its end, and where a
// chain is full beside it.
func TestApplyErrorsInOrderAtManyKeys(t *testing.T) {
	x := keyed(t, allKeys)
	x.refused(t, api.EEXIST, at(1, 0), w("z", ""), w("n0", ""))
	x.refused(t, api.EEXIST, at(1, 0), w("n0", ""), w("z", ""))
	x.refused(t, api.EEXIST, at(1, 0), append(many(writes-1), gone("n199"))...)
	x.refused(t, api.EARG, at(1, 0), w("z", ""), w("n0", ""), w("z", ""))
	x.refused(t, api.EARG, at(2, 0), w("z", ""), w("", "x"))
	x.refused(t, api.EARG, at(2, 0), many(writes+1)...)
	x.refused(t, api.EARG, at(-1, 0), w("z", ""))
	for i := 1; i < deep; i++ {
		l := w("n0", "")
		if err := x.s.Apply(at(int64(10*i), 0), l); err != api.OK || x.p.apply(at(int64(10*i), 0), l) != api.OK {
			t.Fatalf("P12.1: Apply of version %d: %v", i, err)
		}
	}
	x.refused(t, api.EFULL, at(5, 0), w("n0", ""))
	x.refused(t, api.EFULL, at(5, 0), w("z", ""), w("n0", ""))
	x.refused(t, api.EEXIST, at(10, 0), w("z", ""), w("n0", ""))
	x.apply(t, at(10, 0), w("n1", ""))
	x.refused(t, api.EEXIST, at(1, 0), w("z", ""), w("n1", ""))
}

// P12.1: Get by hand: below the first, at one, between two, above all, by
// Nodes too; where what is seen is Gone, and behind it.
func TestGet(t *testing.T) {
	x := few(t)
	for _, c := range []struct {
		k    string
		at   api.Stamp
		want string
		ok   bool
	}{
		{"a", at(math.MinInt64, 0), "", false}, {"a", at(-1, 255), "", false}, {"a", at(0, 0), "", false},
		{"a", at(2, 6), "", false}, {"a", at(2, 7), "", true}, {"a", at(2, 8), "", true}, {"a", at(4, 255), "", true},
		{"a", at(5, 2), "", true}, {"a", at(5, 3), "a5", true}, {"a", at(5, 4), "", false}, {"a", at(5, 5), "", false},
		{"a", at(8, 255), "", false}, {"a", at(9, 0), "a9", true}, {"a", at(top, 255), "a9", true}, {"a", at(top+1, 0), "a9", true}, {"a", at(math.MaxInt64, 255), "a9", true},
		{"b", at(2, 5), "", false}, {"b", at(2, 6), strings.Repeat("b", long), true}, {"b", at(5, 3), "b5", true}, {"b", at(8, 255), "b5", true}, {"b", at(9, 0), "", false}, {"b", at(math.MaxInt64, 255), "", false},
		{"c", at(2, 6), "", false}, {"c", at(2, 7), "c2", true}, {"c", at(9, 0), "", false},
		{"d", at(2, 7), "", false}, {"d", at(9, 0), "d9", true},
		{"e", at(5, 2), "", false}, {"e", at(5, 3), "", true}, {"e", at(100, 0), "", true},
		{"ab", at(5, 4), "ab5", true}, {"ab", at(5, 3), "", false},
		{"z", at(9, 0), "", false}, {"A", at(9, 0), "", false}, {"", at(9, 0), "", false}, {"a\x00b", at(9, 0), "", false}, {"\x00a", at(9, 0), "", false},
	} {
		if v, ok := x.s.Get(k(c.k), c.at); v != c.want || ok != c.ok {
			t.Errorf("P12.1: Get(%q, %v): %q, %v; want %q, %v", c.k, c.at, v, ok, c.want, c.ok)
		}
	}
	is(t, "read", x.s, x.p)
}

// told is items in one line.
func told(l []api.Item) string {
	var b strings.Builder
	for _, x := range l {
		b.WriteString(strings.TrimRight(string(x.Key[:]), "\x00") + "=" + x.Value + " ")
	}
	return b.String()
}

// P12.1: Scan by hand.
func TestScan(t *testing.T) {
	x := newPair()
	x.apply(t, at(4, 0), w("d", "4"), w("b", "2"), w("a", "1"), w("c", "3"), w("f", ""), w("bb", "22"))
	x.apply(t, at(6, 3), gone("b"), gone("d"), w("a", "11"), w("e", "5"))
	x.apply(t, at(8, 0), w("b", "222"), gone("f"))
	for _, c := range []struct {
		from, to string
		at       api.Stamp
		most     int
		want     string
	}{
		{"", "", at(3, 255), 9, ""},
		{"", "", at(4, 0), 9, "a=1 b=2 bb=22 c=3 d=4 f= "},
		{"", "", at(6, 2), 9, "a=1 b=2 bb=22 c=3 d=4 f= "},
		{"", "", at(6, 3), 9, "a=11 bb=22 c=3 e=5 f= "},
		{"", "", at(8, 0), 9, "a=11 b=222 bb=22 c=3 e=5 "},
		{"", "", at(math.MaxInt64, 0), 9, "a=11 b=222 bb=22 c=3 e=5 "},
		{"", "", at(-1, 0), 9, ""},
		{"", "", at(math.MinInt64, 0), 9, ""},
		// How many at most; what is gone does not count.
		{"", "", at(6, 3), math.MinInt, ""}, {"", "", at(6, 3), -1, ""}, {"", "", at(6, 3), 0, ""}, {"", "", at(6, 3), 1, "a=11 "},
		{"", "", at(6, 3), 2, "a=11 bb=22 "}, {"", "", at(6, 3), 3, "a=11 bb=22 c=3 "}, {"", "", at(6, 3), 4, "a=11 bb=22 c=3 e=5 "},
		{"", "", at(6, 3), 5, "a=11 bb=22 c=3 e=5 f= "}, {"", "", at(6, 3), 6, "a=11 bb=22 c=3 e=5 f= "}, {"", "", at(6, 3), math.MaxInt, "a=11 bb=22 c=3 e=5 f= "},
		{"b", "", at(6, 3), 1, "bb=22 "}, {"b", "e", at(6, 3), 2, "bb=22 c=3 "}, {"b", "bb", at(6, 3), 1, ""},
		// from is within, to is not.
		{"b", "d", at(4, 0), 9, "b=2 bb=22 c=3 "}, {"b", "d\x01", at(4, 0), 9, "b=2 bb=22 c=3 d=4 "}, {"b\x01", "d", at(4, 0), 9, "bb=22 c=3 "},
		{"a", "a\x00\x00\x00\x00\x00\x00\x00\x00\x00\x00\x00\x00\x00\x00\x01", at(4, 0), 9, "a=1 "}, {"b", "bb", at(4, 0), 9, "b=2 "},
		{"aa", "bc", at(4, 0), 9, "b=2 bb=22 "}, {"cc", "ce", at(4, 0), 9, ""}, {"", "a", at(4, 0), 9, ""}, {"", "b", at(4, 0), 9, "a=1 "}, {"a", "g", at(4, 0), 9, "a=1 b=2 bb=22 c=3 d=4 f= "},
		// Alike, and turned about.
		{"b", "b", at(4, 0), 9, ""}, {"z", "z", at(4, 0), 9, ""}, {"d", "b", at(4, 0), 9, ""}, {"z", "a", at(4, 0), 9, ""},
		// No upper end.
		{"c", "", at(4, 0), 9, "c=3 d=4 f= "}, {"cc", "", at(4, 0), 9, "d=4 f= "}, {"f", "", at(4, 0), 9, "f= "}, {"ff", "", at(4, 0), 9, ""}, {"\xff", "", at(4, 0), 9, ""},
		// Ends that may not be keys.
		{"\x00b", "\x00c", at(4, 0), 9, ""}, {"\x00b", "c\x00d", at(4, 0), 9, "a=1 b=2 bb=22 c=3 "},
	} {
		if got := told(x.s.Scan(k(c.from), k(c.to), c.at, c.most)); got != c.want {
			t.Errorf("P12.1: Scan(%q, %q, %v, %d): %s; want %s", c.from, c.to, c.at, c.most, got, c.want)
		}
	}
	is(t, "scanned", x.s, x.p)
}

// P12.1: Scan of as many keys as there may be.
func TestScanOfAll(t *testing.T) {
	x := keyed(t, allKeys)
	for _, most := range []int{0, 1, 16, 17, allKeys - 1, allKeys, allKeys + 1} {
		sameItems(t, "P12.1", x.s, x.p, api.Key{}, api.Key{}, at(1, 0), most)
		sameItems(t, "P12.1", x.s, x.p, k("n10"), k("n7"), at(1, 0), most)
	}
	if n := len(x.s.Scan(api.Key{}, api.Key{}, at(1, 0), math.MaxInt)); n != allKeys {
		t.Errorf("P12.1: Scan of all: %d", n)
	}
}

// P12.1: Newest has the greatest Stamp, whichever was applied last, also if
// it is Gone.
func TestNewest(t *testing.T) {
	s := New()
	if n, ok := s.Newest(k("a")); n != at(0, 0) || ok {
		t.Errorf("P12.1: Newest of none: %v, %v", n, ok)
	}
	for _, c := range []struct {
		at   api.Stamp
		l    api.Write
		want api.Stamp
	}{
		{at(5, 3), w("a", "x"), at(5, 3)}, {at(4, 255), w("a", ""), at(5, 3)}, {at(5, 2), gone("a"), at(5, 3)}, {at(5, 4), w("a", "y"), at(5, 4)},
		{at(9, 9), w("b", ""), at(5, 4)}, {at(6, 0), gone("a"), at(6, 0)}, {at(0, 0), w("a", ""), at(6, 0)}, {at(top, 255), w("a", ""), at(top, 255)},
	} {
		if err := s.Apply(c.at, c.l); err != api.OK {
			t.Fatalf("P12.1: Apply(%v): %v", c.at, err)
		}
		if n, ok := s.Newest(k("a")); n != c.want || !ok {
			t.Errorf("P12.1: Newest behind %v: %v, %v; want %v", c.at, n, ok, c.want)
		}
	}
	if n, ok := s.Newest(k("aa")); n != at(0, 0) || ok {
		t.Errorf("P12.1: Newest of a key that is not there: %v, %v", n, ok)
	}
}

// P12.1: a version at 0.0 is told with true.
func TestNewestAtNought(t *testing.T) {
	s := New()
	s.Apply(at(0, 0), w("a", ""))
	if n, ok := s.Newest(k("a")); n != at(0, 0) || !ok {
		t.Errorf("P12.1: Newest at 0.0: %v, %v", n, ok)
	}
}

// P12.1: Chain by hand, rising by Stamps.
func TestChain(t *testing.T) {
	x := few(t)
	for name, want := range map[string][]chain.Version{
		"a":  {val(2, 7, ""), val(5, 3, "a5"), goneAt(5, 4), val(9, 0, "a9")},
		"ab": {val(5, 4, "ab5")},
		"b":  {val(2, 6, strings.Repeat("b", long)), val(5, 3, "b5"), goneAt(9, 0)},
		"c":  {goneAt(2, 6), val(2, 7, "c2"), goneAt(9, 0)},
		"d":  {goneAt(2, 7), val(9, 0, "d9")},
		"e":  {val(5, 3, "")},
		"f":  nil,
		"":   nil,
	} {
		if got := x.s.Chain(k(name)); !slices.Equal(got, want) {
			t.Errorf("P12.1: Chain(%q): %v; want %v", name, got, want)
		}
	}
}

// P12.1: Keys rise, each once, in whichever order they were applied, also
// those whose newest is Gone.
func TestKeys(t *testing.T) {
	names := []string{"\x01", " ", "A", "Z", "a", "a\x01", "aa", "aaaaaaaaaaaaaaaa", "aaaaaaaaaaaaaaab", "ab", "b", "sixteen bytes...", "\x80", "\xff", "\xff\x01", strings.Repeat("\xff", 16)}
	var want []api.Key
	for _, name := range names {
		want = append(want, k(name))
	}
	r := rand.New(rand.NewSource(12))
	for range 30 {
		s := New()
		for i, j := range r.Perm(len(names)) {
			write := w(names[j], "x")
			if i%3 == 0 {
				write = gone(names[j])
			}
			if err := s.Apply(at(int64(i), 0), write); err != api.OK {
				t.Fatalf("P12.1: Apply to %q: %v", names[j], err)
			}
			if err := s.Apply(at(int64(i), 1), gone(names[j])); err != api.OK {
				t.Fatalf("P12.1: Apply to %q again: %v", names[j], err)
			}
		}
		if got := s.Keys(); !slices.Equal(got, want) {
			t.Fatalf("P12.1: Keys: %q", got)
		}
	}
}

// P12.1: Trim by hand over several keys: how many go, and what is left.
func TestTrim(t *testing.T) {
	for _, c := range []struct {
		at   api.Stamp
		n    int
		keys string
	}{
		{at(math.MinInt64, 255), 0, "a ab b c d e"},
		{at(-1, 255), 0, "a ab b c d e"},
		{at(0, 0), 0, "a ab b c d e"},
		{at(2, 5), 0, "a ab b c d e"},
		{at(2, 6), 1, "a ab b c d e"}, // c's first, which is Gone
		{at(2, 7), 2, "a ab b c d e"}, // and d's
		{at(5, 2), 2, "a ab b c d e"},
		{at(5, 3), 4, "a ab b c d e"}, // and the first of a and of b
		{at(5, 4), 6, "a ab b c d e"}, // and two more of a, one of them Gone
		{at(8, 255), 6, "a ab b c d e"},
		{at(9, 0), 10, "a ab d e"}, // and all of b and of c
		{at(top, 0), 10, "a ab d e"},
		{at(top+1, 0), 10, "a ab d e"},
		{at(math.MaxInt64, 255), 10, "a ab d e"},
	} {
		x := few(t)
		x.trim(t, c.at, c.n)
		var keys []string
		for _, y := range x.s.Keys() {
			keys = append(keys, strings.TrimRight(string(y[:]), "\x00"))
		}
		if got := strings.Join(keys, " "); got != c.keys {
			t.Errorf("P12.1: Keys behind Trim(%v): %s; want %s", c.at, got, c.keys)
		}
		x.trim(t, c.at, 0)
		x.trim(t, at(0, 0), 0)
	}
}

// P12.1: what is told at the time of a Trim, and behind it, is as it was.
func TestTrimKeepsWhatIsSeen(t *testing.T) {
	was := few(t)
	times := stampsOf(was.p)
	for _, when := range times {
		x := few(t)
		x.s.Trim(when)
		for _, later := range times {
			if above(when, later) {
				continue
			}
			sameItems(t, "P12.1: behind a Trim", x.s, was.p, api.Key{}, api.Key{}, later, 99)
			for _, y := range was.p.keys() {
				v, ok := x.s.Get(y, later)
				if wantV, wantOk := was.p.get(y, later); v != wantV || ok != wantOk {
					t.Errorf("P12.1: behind Trim(%v): Get(%q, %v): %q, %v; want %q, %v", when, y, later, v, ok, wantV, wantOk)
				}
			}
		}
	}
}

// P12.1: a key whose versions went is as one that never was.
func TestTrimToNone(t *testing.T) {
	x := newPair()
	x.apply(t, at(3, 0), w("a", "x"), w("b", "x"))
	x.apply(t, at(4, 0), gone("a"), gone("b"))
	x.trim(t, at(4, 0), 4)
	if n := len(x.s.Keys()); n != 0 {
		t.Errorf("P12.1: Keys of none: %d", n)
	}
	x.apply(t, at(4, 0), w("a", "again"))
	x.apply(t, at(3, 0), w("a", "below"), gone("b"))
	x.trim(t, at(3, 0), 1)
	is(t, "filled anew", x.s, x.p)
}

// P12.1: a Copy tells the same, and knows nothing of what comes later, either
// way round.
func TestCopy(t *testing.T) {
	for _, copied := range []bool{false, true} {
		x := few(t)
		still := pair{x.s.Copy(), &plain{slices.Clone(x.p.rows)}}
		is(t, "a copy", still.s, still.p)
		if copied {
			x.s, still.s = still.s, x.s
		}
		x.apply(t, at(7, 7), w("a", "a7"), w("new", ""), gone("e"))
		x.apply(t, at(1, 0), w("a", "a1"))
		is(t, "the other one, behind an Apply", still.s, still.p)
		x.refused(t, api.EEXIST, at(7, 7), w("a", "a7"))
		still.apply(t, at(7, 7), w("a", "other"))
		is(t, "the one, behind an Apply to the other", x.s, x.p)
		x.trim(t, at(9, 0), 14)
		is(t, "the other one, behind a Trim", still.s, still.p)
		still.trim(t, at(5, 4), 6)
		is(t, "the one, behind a Trim of the other", x.s, x.p)
	}
}

// P12.1: a Copy has the limits of the first: of its chains and of its keys.
func TestCopyOfFull(t *testing.T) {
	x := fullChain(t)
	c := pair{x.s.Copy(), &plain{slices.Clone(x.p.rows)}}
	is(t, "a copy of a full chain", c.s, c.p)
	c.refused(t, api.EFULL, at(15, 0), w("full", ""))
	c.trim(t, at(20, 5), 1)
	c.apply(t, at(15, 0), w("full", ""))
	x.refused(t, api.EFULL, at(15, 0), w("full", ""))

	y := keyed(t, allKeys)
	d := pair{y.s.Copy(), &plain{slices.Clone(y.p.rows)}}
	holds(t, "a copy of all keys", d.s, d.p)
	d.refused(t, api.EFULL, at(1, 0), w("z", ""))
	d.apply(t, at(2, 0), w("n0", ""))
	holds(t, "the first one", y.s, y.p)
}

// R5: two stores know nothing of each other.
func TestTwoStores(t *testing.T) {
	x, y := few(t), newPair()
	is(t, "the other one", y.s, y.p)
	y.apply(t, at(5, 3), w("a", "mine"), w("mine", ""))
	is(t, "the one", x.s, x.p)
	x.apply(t, at(6, 0), w("mine", "not"), gone("a"))
	x.trim(t, at(top, 255), 11)
	is(t, "the other one", y.s, y.p)
}

// R4: the list that is handed to Apply is as it was, spare room included, and
// is not kept.
func TestListOfWrites(t *testing.T) {
	x := few(t)
	room := []api.Write{w("z", "z"), w("a", "x"), gone("y"), w("b", strings.Repeat("v", long)), w("spare", "s"), {Value: "spare", Gone: true}}
	was := slices.Clone(room)
	l := room[:4]
	for _, c := range []struct {
		at   api.Stamp
		want api.Errno
	}{{at(-1, 0), api.EARG}, {at(9, 0), api.EEXIST}, {at(20, 0), api.OK}, {at(20, 0), api.EEXIST}} {
		if err := x.s.Apply(c.at, l...); err != c.want || x.p.apply(c.at, was[:4]...) != c.want {
			t.Fatalf("P12.1: Apply(%v): %v; want %v", c.at, err, c.want)
		}
		if !slices.Equal(room, was) {
			t.Fatalf("R4: Apply(%v) changed the list: %v", c.at, room)
		}
	}
	for i := range room {
		room[i] = w("over", "written")
	}
	is(t, "the list was written into", x.s, x.p)
}

// R4: what is written into an answer, or into the room behind it, changes
// neither the store nor another answer.
func TestAnswersAreNewMemory(t *testing.T) {
	x := few(t)
	chains, keys, items := x.s.Chain(k("a")), x.s.Keys(), x.s.Scan(api.Key{}, api.Key{}, at(9, 0), 9)
	for range 2 {
		c, l, i := x.s.Chain(k("a")), x.s.Keys(), x.s.Scan(api.Key{}, api.Key{}, at(9, 0), 9)
		if !slices.Equal(c, chains) || !slices.Equal(l, keys) || !slices.Equal(i, items) {
			t.Fatalf("R4: an answer that was written into came back: %v %v %v", c, l, i)
		}
		for j := range c[:cap(c)] {
			c[:cap(c)][j] = goneAt(top, 255)
		}
		for j := range l[:cap(l)] {
			l[:cap(l)][j] = k("over")
		}
		for j := range i[:cap(i)] {
			i[:cap(i)][j] = api.Item{Key: k("over"), Value: "written"}
		}
		is(t, "answers were written into", x.s, x.p)
	}
	x.apply(t, at(10, 0), w("a", "next"), w("aa", "next"))
	x.trim(t, at(10, 0), 11)
	if len(chains) != 4 || chains[3] != val(9, 0, "a9") || len(keys) != 6 || keys[5] != k("e") || told(items) != "a=a9 ab=ab5 d=d9 e= " {
		t.Errorf("R4: an answer changed: %v %v %v", chains, keys, items)
	}
}

// anyWrites draws writes to few keys, seldom ones that may not be.
func anyWrites(r *rand.Rand, keys int) []api.Write {
	var l []api.Write
	for range 1 + r.Intn(4) {
		x := w("k"+strconv.Itoa(r.Intn(keys)), strings.Repeat("v", r.Intn(4)))
		switch r.Intn(40) {
		case 0:
			x.Value = strings.Repeat("x", long+r.Intn(3)-1)
		case 1:
			x.Value, x.Gone = "x", true
		case 2:
			x.Key = others()[r.Intn(len(others()))]
		case 3, 4, 5, 6, 7, 8, 9, 10:
			x.Value, x.Gone = "", true
		}
		l = append(l, x)
	}
	return l
}

func anyStamp(r *rand.Rand) api.Stamp {
	s := at(int64(r.Intn(40)), uint8(r.Intn(3)))
	if r.Intn(40) == 0 {
		s.Time = []int64{-1, top, top + 1}[r.Intn(3)]
	}
	return s
}

// P12.1: calls in any order, held against a store that keeps no order: of few
// keys with long chains, and of many keys with short ones.
func TestAny(t *testing.T) {
	r := rand.New(rand.NewSource(1))
	seen := map[api.Errno]int{}
	for round, keys := range []int{1, 2, 3, 5, 8, 20, 60, 150, 220, 260, 300, 2, 3, 4} {
		x := newPair()
		for step := range 500 {
			switch n := r.Intn(60); {
			case n == 0:
				x.s = x.s.Copy()
			case n <= round%4:
				s := anyStamp(r)
				if got, want := x.s.Trim(s), x.p.trim(s); got != want {
					t.Fatalf("P12.1: round %d, step %d: Trim(%v): %d; want %d", round, step, s, got, want)
				}
			default:
				s, l := anyStamp(r), anyWrites(r, keys)
				got, want := x.s.Apply(s, l...), x.p.apply(s, l...)
				if got != want {
					t.Fatalf("P12.1: round %d, step %d: Apply(%v, %v): %v; want %v", round, step, s, l, got, want)
				}
				seen[got]++
			}
			if step%50 == 0 {
				holds(t, "any calls", x.s, x.p)
			}
		}
		if keys < 50 {
			is(t, "any calls", x.s, x.p)
		} else {
			holds(t, "any calls", x.s, x.p)
		}
	}
	for _, err := range []api.Errno{api.OK, api.EARG, api.EEXIST, api.EFULL} {
		if seen[err] == 0 {
			t.Errorf("no Apply was answered %v", err)
		}
	}
}
