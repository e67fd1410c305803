package part

import (
	"bytes"
	"math"
	"math/rand"
	"slices"
	"strconv"
	"strings"
	"testing"

	"hourglass/api"
	"hourglass/chain"
	"hourglass/prep"
	"hourglass/rec"
)

const (
	top     = 36028797018963967 // MaxTime, in digits
	long    = 200               // MaxValue
	writes  = 16                // MaxWrites
	allKeys = 200               // MaxKeys
	deep    = 50                // MaxChain
	entries = 100               // how many may be prepared
	never   = math.MinInt64
	forever = math.MaxInt64 // a clock that no time is above
)

func at(time int64, node uint8) api.Stamp { return api.Stamp{Time: time, Node: node} }

// k is the bytes of a text, and noughts behind it, also where that may not be
// a key.
func k(s string) api.Key {
	var x api.Key
	copy(x[:], s)
	return x
}

func w(s, v string) api.Write { return api.Write{Key: k(s), Value: v} }

func gone(s string) api.Write { return api.Write{Key: k(s), Gone: true} }

// e is an entry.
func e(id int64, snap, when api.Stamp, l ...api.Write) prep.Entry {
	return prep.Entry{ID: id, Snap: snap, Stamp: when, Writes: l}
}

// many is n writes to unlike keys, which begin with a text.
func many(s string, n int) []api.Write {
	var l []api.Write
	for i := range n {
		l = append(l, w(s+strconv.Itoa(i), "v"+strconv.Itoa(i)))
	}
	return l
}

// above compares by hand: by Time, then Node.
func above(a, b api.Stamp) bool {
	return a.Time > b.Time || a.Time == b.Time && a.Node > b.Node
}

func badTime(s api.Stamp) bool { return s.Time < 0 || s.Time > top }

// badKey looks at each byte, from the last one on.
func badKey(x api.Key) bool {
	text := false
	for i := 15; i >= 0; i-- {
		if x[i] == 0 && text {
			return true
		}
		text = text || x[i] != 0
	}
	return !text
}

func badEntry(x prep.Entry) bool {
	n := len(x.Writes)
	bad := x.ID <= 0 || badTime(x.Snap) || badTime(x.Stamp) || !above(x.Stamp, x.Snap) || n < 1 || n > writes
	for i, a := range x.Writes {
		bad = bad || badKey(a.Key) || len(a.Value) > long || a.Gone && len(a.Value) > 0
		for _, b := range x.Writes[:i] {
			bad = bad || a.Key == b.Key
		}
	}
	return bad
}

func within(x, from, to api.Key) bool {
	return bytes.Compare(x[:], from[:]) >= 0 && (to == api.Key{} || bytes.Compare(x[:], to[:]) < 0)
}

// row is a version and its key.
type row struct {
	k api.Key
	v chain.Version
}

// plain is a part that keeps lists in no order, and goes through all of them
// at each call.
type plain struct {
	rows   []row
	pend   []prep.Entry
	states map[int64]int
}

// seen is the version of a key with the greatest Stamp not above one.
func (p *plain) seen(x api.Key, s api.Stamp) (chain.Version, bool) {
	var best chain.Version
	found := false
	for _, r := range p.rows {
		if r.k == x && !above(r.v.Stamp, s) && (!found || above(r.v.Stamp, best.Stamp)) {
			best, found = r.v, true
		}
	}
	return best, found
}

// holder is the entry that has a key.
func (p *plain) holder(x api.Key) (prep.Entry, bool) {
	for _, y := range p.pend {
		for _, a := range y.Writes {
			if a.Key == x {
				return y, true
			}
		}
	}
	return prep.Entry{}, false
}

func (p *plain) blocked(x api.Key, s api.Stamp) bool {
	y, held := p.holder(x)
	return held && !above(y.Stamp, s)
}

// answer is what Read answers.
type answer struct {
	v   string
	ok  bool
	err api.Errno
}

func (p *plain) read(x api.Key, s api.Stamp, now int64) answer {
	if badKey(x) || badTime(s) {
		return answer{err: api.EARG}
	}
	if s.Time > now || p.blocked(x, s) {
		return answer{err: api.EWAIT}
	}
	v, ok := p.seen(x, s)
	return answer{v: v.Value, ok: ok && !v.Gone}
}

// keys are those of versions, rising.
func (p *plain) keys() []api.Key {
	var l []api.Key
	for _, r := range p.rows {
		l = append(l, r.k)
	}
	return sorted(l)
}

// wanted are the keys of all that is prepared, rising.
func (p *plain) wanted() []api.Key {
	var l []api.Key
	for _, y := range p.pend {
		for _, a := range y.Writes {
			l = append(l, a.Key)
		}
	}
	return sorted(l)
}

func sorted(l []api.Key) []api.Key {
	slices.SortFunc(l, func(a, b api.Key) int { return bytes.Compare(a[:], b[:]) })
	return slices.Compact(l)
}

func (p *plain) scan(from, to api.Key, s api.Stamp, now int64, n int) ([]api.Item, api.Errno) {
	if badTime(s) {
		return nil, api.EARG
	}
	wait := s.Time > now
	for _, x := range p.wanted() {
		wait = wait || within(x, from, to) && p.blocked(x, s)
	}
	if wait {
		return nil, api.EWAIT
	}
	var l []api.Item
	for _, x := range p.keys() {
		v, ok := p.seen(x, s)
		if ok && !v.Gone && within(x, from, to) && len(l) < n {
			l = append(l, api.Item{Key: x, Value: v.Value})
		}
	}
	return l, api.OK
}

// chain is the versions of a key, rising.
func (p *plain) chain(x api.Key) []chain.Version {
	var l []chain.Version
	for _, r := range p.rows {
		if r.k == x {
			l = append(l, r.v)
		}
	}
	slices.SortFunc(l, func(a, b chain.Version) int {
		if above(a.Stamp, b.Stamp) {
			return 1
		}
		return -1
	})
	return l
}

func (p *plain) prepare(x prep.Entry) api.Errno {
	if badEntry(x) {
		return api.EARG
	}
	if p.states[x.ID] != 0 {
		return api.EOVER
	}
	full := len(p.pend) == entries
	all := append(p.keys(), p.wanted()...)
	for _, a := range x.Writes {
		if _, held := p.holder(a.Key); held {
			return api.ECONFLICT
		}
		c := p.chain(a.Key)
		if len(c) > 0 && above(c[len(c)-1].Stamp, x.Snap) {
			return api.ECONFLICT
		}
		full = full || len(c) == deep
		all = append(all, a.Key)
	}
	if full || len(sorted(all)) > allKeys {
		return api.EFULL
	}
	x.Writes = slices.Clone(x.Writes)
	p.pend = append(p.pend, x)
	p.states[x.ID] = 1
	return api.OK
}

// drop takes an entry away.
func (p *plain) drop(id int64) {
	p.pend = slices.DeleteFunc(p.pend, func(y prep.Entry) bool { return y.ID == id })
}

func (p *plain) entry(id int64) prep.Entry {
	for _, y := range p.pend {
		if y.ID == id {
			return y
		}
	}
	return prep.Entry{}
}

func (p *plain) commit(id int64, s api.Stamp) api.Errno {
	state := p.states[id]
	if badTime(s) {
		return api.EARG
	}
	if state != 1 {
		return []api.Errno{api.ENONE, api.OK, api.OK, api.EOVER}[state]
	}
	y := p.entry(id)
	if above(y.Stamp, s) {
		return api.EARG
	}
	for _, r := range p.rows {
		for _, a := range y.Writes {
			if r.k == a.Key && r.v.Stamp == s {
				return api.EEXIST
			}
		}
	}
	for _, a := range y.Writes {
		p.rows = append(p.rows, row{a.Key, chain.Version{Stamp: s, Value: a.Value, Gone: a.Gone}})
	}
	p.drop(id)
	p.states[id] = 2
	return api.OK
}

func (p *plain) abort(id int64) api.Errno {
	if id <= 0 {
		return api.EARG
	}
	if p.states[id] == 2 {
		return api.EOVER
	}
	p.drop(id)
	p.states[id] = 3
	return api.OK
}

func (p *plain) play(r rec.Record) api.Errno {
	if !rec.Good(r) {
		return api.EFORM
	}
	switch r.Kind {
	case 1:
		return p.prepare(e(r.ID, r.Snap, r.Stamp, r.Writes...))
	case 2:
		return p.commit(r.ID, r.Stamp)
	case 3:
		return p.abort(r.ID)
	}
	return api.OK
}

func (p *plain) trim(s api.Stamp) int {
	var left []row
	for _, r := range p.rows {
		v, ok := p.seen(r.k, s)
		if !ok || above(r.v.Stamp, v.Stamp) || r.v == v && !v.Gone {
			left = append(left, r)
		}
	}
	n := len(p.rows) - len(left)
	p.rows = left
	return n
}

func (p *plain) prepared() []int64 {
	var l []int64
	for id, state := range p.states {
		if state == 1 {
			l = append(l, id)
		}
	}
	slices.Sort(l)
	return l
}

// some are keys that seldom are there, and some that may not be.
func some() []api.Key {
	return []api.Key{{}, k("\x01"), k("absent"), k("\x00a"), k("a\x00b"), k(strings.Repeat("\xff", 16))}
}

// ends are stamps at the ends, and some that may not be.
func ends() []api.Stamp {
	return []api.Stamp{at(math.MinInt64, 0), at(-1, 255), at(0, 0), at(top, 255), at(top+1, 0), at(math.MaxInt64, 255)}
}

// around are stamps at, and just beside, one.
func around(s api.Stamp) []api.Stamp {
	return []api.Stamp{s, at(s.Time, s.Node-1), at(s.Time, s.Node+1), at(s.Time-1, 255), at(s.Time+1, 0)}
}

// stamps are those around what a key has.
func (p *plain) stamps(x api.Key) []api.Stamp {
	l := ends()
	for _, v := range p.chain(x) {
		l = append(l, around(v.Stamp)...)
	}
	if y, held := p.holder(x); held {
		l = append(l, around(y.Stamp)...)
	}
	return l
}

// is fails, unless each call of the part that changes nothing tells the same
// as the plain one.
func is(t *testing.T, what string, x *Part, p *plain) {
	t.Helper()
	told(t, what, x, p)
	keys := append(some(), sorted(append(p.keys(), p.wanted()...))...)
	for i, one := range keys {
		for j, s := range p.stamps(one) {
			if len(keys) > 60 && (i+j)%6 > 0 {
				continue // of many keys it is enough to ask each a little
			}
			sameRead(t, what, x, p, one, s, forever)
			for _, now := range []int64{never, -1, s.Time - 1, s.Time, s.Time + 1}[j%3:][:3] {
				sameRead(t, what, x, p, one, s, now)
			}
			if i < 40 && j < 20 {
				other := keys[i*7%len(keys)]
				sameScan(t, what, x, p, one, other, s, s.Time, []int{math.MaxInt, 0, 1, i % 9, -1, math.MinInt}[j%6])
				sameScan(t, what, x, p, api.Key{}, one, s, s.Time-1+int64(j%3), 3)
				sameScan(t, what, x, p, one, api.Key{}, s, forever, math.MaxInt)
			}
		}
	}
}

// told fails, unless State, Prepared and Store are as in the plain one.
func told(t *testing.T, what string, x *Part, p *plain) {
	t.Helper()
	ids := []int64{math.MinInt64, -1, 0, 1, 2, math.MaxInt64}
	for id := range p.states {
		ids = append(ids, id-1, id, id+1)
	}
	for _, id := range ids {
		if got, want := x.State(id), p.states[id]; got != want {
			t.Fatalf("%s: State(%d): %d; want %d", what, id, got, want)
		}
	}
	if got, want := x.Prepared(), p.prepared(); !slices.Equal(got, want) {
		t.Fatalf("%s: Prepared: %v; want %v", what, got, want)
	}
	s, keys := x.Store(), p.keys()
	if got := s.Keys(); !slices.Equal(got, keys) {
		t.Fatalf("%s: Store: the keys %s; want %s", what, got, keys)
	}
	for _, one := range keys {
		if got, want := s.Chain(one), p.chain(one); !slices.Equal(got, want) {
			t.Fatalf("%s: Store: Chain(%q): %v; want %v", what, one, got, want)
		}
	}
}

func read(x *Part, one api.Key, s api.Stamp, now int64) answer {
	v, ok, err := x.Read(one, s, now)
	return answer{v, ok, err}
}

func sameRead(t *testing.T, what string, x *Part, p *plain, one api.Key, s api.Stamp, now int64) {
	t.Helper()
	if got, want := read(x, one, s, now), p.read(one, s, now); got != want {
		t.Fatalf("%s: Read(%q, %v, %d): %v; want %v", what, one, s, now, got, want)
	}
}

func sameScan(t *testing.T, what string, x *Part, p *plain, from, to api.Key, s api.Stamp, now int64, n int) {
	t.Helper()
	got, err := x.Scan(from, to, s, now, n)
	want, wantErr := p.scan(from, to, s, now, n)
	if !slices.Equal(got, want) || err != wantErr {
		t.Fatalf("%s: Scan(%q, %q, %v, %d, %d): %v, %v; want %v, %v", what, from, to, s, now, n, got, err, want, wantErr)
	}
}

// pair is a part, and a plain one that is told the same.
type pair struct {
	x *Part
	p *plain
}

func newPair() pair { return pair{New(), &plain{states: map[int64]int{}}} }

// was fails, unless both answered what they should, and tell the same then.
func (y pair) was(t *testing.T, what string, got, plainly, want api.Errno) {
	t.Helper()
	if got != want || plainly != want {
		t.Fatalf("%.300s: %v (the plain one: %v); want %v", what, got, plainly, want)
	}
	is(t, what, y.x, y.p)
}

// prepare is Prepare of entries that are all answered the same.
func (y pair) prepare(t *testing.T, want api.Errno, l ...prep.Entry) {
	t.Helper()
	for _, one := range l {
		y.was(t, "P16.2: Prepare of "+strconv.FormatInt(one.ID, 10), y.x.Prepare(one), y.p.prepare(one), want)
	}
}

func (y pair) commit(t *testing.T, want api.Errno, id int64, s api.Stamp) {
	t.Helper()
	y.was(t, "P16.2: Commit of "+strconv.FormatInt(id, 10), y.x.Commit(id, s), y.p.commit(id, s), want)
}

func (y pair) abort(t *testing.T, want api.Errno, ids ...int64) {
	t.Helper()
	for _, id := range ids {
		y.was(t, "P16.2: Abort of "+strconv.FormatInt(id, 10), y.x.Abort(id), y.p.abort(id), want)
	}
}

func (y pair) play(t *testing.T, want api.Errno, l ...rec.Record) {
	t.Helper()
	for _, r := range l {
		y.was(t, "P16.2: Play of Kind "+strconv.Itoa(r.Kind), y.x.Play(r), y.p.play(r), want)
	}
}

// trim is a Trim, how many went, and whether all is told as before from that
// time on.
func (y pair) trim(t *testing.T, s api.Stamp, want int) {
	t.Helper()
	before := &plain{slices.Clone(y.p.rows), y.p.pend, y.p.states}
	if got, plainly := y.x.Trim(s), y.p.trim(s); got != want || plainly != want {
		t.Fatalf("P16.2: Trim(%v): %d (the plain one: %d); want %d", s, got, plainly, want)
	}
	is(t, "P16.2: trimmed", y.x, y.p)
	for _, one := range before.keys() {
		for _, later := range append(before.stamps(one), s) {
			if !above(s, later) {
				sameRead(t, "P16.2: trimmed", y.x, before, one, later, forever)
				sameScan(t, "P16.2: trimmed", y.x, before, one, api.Key{}, later, forever, 9)
			}
		}
	}
}

// wrote prepares and commits, without a look at anything else.
func (y pair) wrote(t *testing.T, id int64, snap, when api.Stamp, l ...api.Write) {
	t.Helper()
	y.ready(t, e(id, snap, when, l...))
	if err := y.x.Commit(id, when); err != api.OK || y.p.commit(id, when) != api.OK {
		t.Fatalf("P16.2: Commit(%d, %v): %v", id, when, err)
	}
}

// ready prepares, without a look at anything else.
func (y pair) ready(t *testing.T, l ...prep.Entry) {
	t.Helper()
	for _, one := range l {
		if err := y.x.Prepare(one); err != api.OK || y.p.prepare(one) != api.OK {
			t.Fatalf("P16.2: Prepare(%.300v): %v", one, err)
		}
	}
}

// few has versions of a (at 2.0 and 4.1) and of b (at 2.0, gone at 4.1) by 1
// and 2; 3 is prepared at 6.2 with c and f, 4 is aborted, which had d, and so
// is 5, which never was there.
func few(t *testing.T) pair {
	t.Helper()
	y := newPair()
	y.wrote(t, 1, at(0, 0), at(2, 0), w("a", "a2"), w("b", "b2"))
	y.wrote(t, 2, at(2, 0), at(4, 1), gone("b"), w("a", "a4"))
	y.ready(t, e(3, at(5, 0), at(6, 2), w("f", "f3"), w("c", "c3")), e(4, at(5, 0), at(6, 2), w("d", "d4")))
	y.abort(t, api.OK, 4, 5)
	return y
}

// reads fails, unless Read is as told.
func (y pair) reads(t *testing.T, s string, when api.Stamp, now int64, want answer) {
	t.Helper()
	if got := read(y.x, k(s), when, now); got != want {
		t.Errorf("P16.1: Read(%q, %v, %d): %v; want %v", s, when, now, got, want)
	}
}

func found(s string) answer { return answer{v: s, ok: true} }

func refusal(err api.Errno) answer { return answer{err: err} }

// scans fails, unless Scan is as told: keys and values, with blanks between.
func (y pair) scans(t *testing.T, from, to string, when api.Stamp, now int64, n int, want string, wantErr api.Errno) {
	t.Helper()
	l, err := y.x.Scan(k(from), k(to), when, now, n)
	var got []string
	for _, one := range l {
		got = append(got, strings.TrimRight(string(one.Key[:]), "\x00"), one.Value)
	}
	if strings.Join(got, " ") != want || err != wantErr {
		t.Errorf("P16.1: Scan(%q, %q, %v, %d, %d): %q, %v; want %q, %v", from, to, when, now, n, got, err, want, wantErr)
	}
}

// The limits are as the tests take them.
func TestLimits(t *testing.T) {
	if api.MaxTime != top || api.MaxValue != long || api.MaxWrites != writes || api.MaxKeys != allKeys || api.MaxChain != deep {
		t.Fatalf("limits: %d, %d, %d, %d, %d", int64(api.MaxTime), api.MaxValue, api.MaxWrites, api.MaxKeys, api.MaxChain)
	}
}

// The chapter's example.
func TestExample(t *testing.T) {
	y := newPair()
	y.prepare(t, api.OK, e(1, at(0, 0), at(5, 0), w("k", "the value")))
	y.reads(t, "k", at(5, 0), 9, refusal(api.EWAIT))
	y.commit(t, api.OK, 1, at(7, 0))
	y.reads(t, "k", at(6, 9), 9, answer{})
	y.reads(t, "k", at(7, 0), 9, found("the value"))
}

// P16.1, P16.2: a new one has nothing, and refuses what asks for something.
func TestNew(t *testing.T) {
	y := newPair()
	is(t, "a new one", y.x, y.p)
	y.reads(t, "a", at(0, 0), 0, answer{})
	y.scans(t, "", "", at(0, 0), 0, 9, "", api.OK)
	y.trim(t, at(top, 255), 0)
	if n := len(y.x.Prepared()); n != 0 {
		t.Errorf("P16.2: Prepared of none: %d", n)
	}
	if s := y.x.Store(); s == nil || len(s.Keys()) != 0 {
		t.Errorf("P16.2: Store of a new one: %v", s)
	}
	for _, id := range []int64{math.MinInt64, -1, 0, 1, math.MaxInt64} {
		y.commit(t, api.ENONE, id, at(5, 0))
		y.commit(t, api.EARG, id, at(-1, 0))
	}
}

// P16.1: Read of a key or a time that may not be, or both: EARG, also where
// the clock lags, and where one waits for another key.
func TestReadWrong(t *testing.T) {
	y := few(t)
	bads := []string{"", "\x00", "\x00a", "a\x00b", strings.Repeat("\x00", 15) + "b", "fourteen bytes\x00b"}
	times := []api.Stamp{at(-1, 0), at(-1, 255), at(math.MinInt64, 0), at(top+1, 0), at(top+1, 255), at(math.MaxInt64, 255)}
	for _, now := range []int64{never, -2, -1, 0, 5, top, top + 1, forever} {
		for _, s := range bads {
			for _, when := range append(times, at(0, 0), at(6, 2), at(top, 255)) {
				y.reads(t, s, when, now, refusal(api.EARG))
			}
		}
		for _, when := range times {
			for _, s := range []string{"a", "b", "c", "d", "e", "sixteen bytes..."} {
				y.reads(t, s, when, now, refusal(api.EARG))
			}
		}
	}
	is(t, "R3: a Read that is refused", y.x, y.p)
}

// P16.1: Read of a time above now, like it, and below it: by Time alone.
func TestReadClock(t *testing.T) {
	y := few(t)
	for _, when := range []int64{0, 1, 2, 4, 5, top - 1, top} {
		for _, node := range []uint8{0, 1, 255} {
			s := at(when, node)
			for _, now := range []int64{when, when + 1, when + 1000, top + 1, forever} {
				if now >= when {
					sameRead(t, "P16.1", y.x, y.p, k("a"), s, now)
				}
				if got := read(y.x, k("a"), s, now); got.err != api.OK {
					t.Errorf("P16.1: Read(a, %v, %d): %v", s, now, got)
				}
			}
			for _, now := range []int64{when - 1, when - 1000, -1, never} {
				for _, x := range []string{"a", "b", "c", "d", "never"} {
					if now < when {
						y.reads(t, x, s, now, refusal(api.EWAIT))
					}
				}
			}
		}
	}
	y.reads(t, "a", at(4, 255), 4, found("a4"))
	y.reads(t, "a", at(4, 0), 4, found("a2"))
	y.reads(t, "a", at(4, 0), 3, refusal(api.EWAIT))
	y.reads(t, "a", at(0, 0), 0, answer{})
	y.reads(t, "a", at(0, 0), -1, refusal(api.EWAIT))
	y.reads(t, "a", at(top, 255), forever, found("a4"))
}

// P16.1: Read of a key that is prepared: it waits from just its Stamp on.
func TestReadBlocked(t *testing.T) {
	y := few(t)
	for _, s := range []string{"c", "f"} {
		for _, when := range []api.Stamp{at(0, 0), at(5, 0), at(5, 255), at(6, 0), at(6, 1)} {
			y.reads(t, s, when, forever, answer{})
		}
		for _, when := range []api.Stamp{at(6, 2), at(6, 3), at(6, 255), at(7, 0), at(top, 255)} {
			y.reads(t, s, when, forever, refusal(api.EWAIT))
			y.reads(t, s, when, 5, refusal(api.EWAIT))
			y.reads(t, s, when, when.Time, refusal(api.EWAIT))
		}
	}
	// Others go on.
	for s, want := range map[string]answer{"a": found("a4"), "b": {}, "d": {}, "cc": {}, "e": {}, "never": {}} {
		y.reads(t, s, at(6, 2), 6, want)
		y.reads(t, s, at(top, 255), top, want)
	}
	// What is there waits alike.
	y.prepare(t, api.OK, e(9, at(4, 1), at(4, 2), w("a", "a9"), w("b", "b9")))
	y.reads(t, "a", at(4, 1), 4, found("a4"))
	y.reads(t, "a", at(4, 2), 4, refusal(api.EWAIT))
	y.reads(t, "b", at(4, 1), 4, answer{})
	y.reads(t, "b", at(4, 2), 4, refusal(api.EWAIT))
	y.abort(t, api.OK, 9)
	y.reads(t, "a", at(4, 2), 4, found("a4"))
	y.reads(t, "c", at(6, 2), 6, refusal(api.EWAIT))
}

// P16.1: Read of what was committed, by hand.
func TestReadCommitted(t *testing.T) {
	y := few(t)
	for _, c := range []struct {
		s    string
		when api.Stamp
		want answer
	}{
		{"a", at(0, 0), answer{}}, {"a", at(1, 255), answer{}}, {"a", at(2, 0), found("a2")}, {"a", at(2, 1), found("a2")}, {"a", at(4, 0), found("a2")}, {"a", at(4, 1), found("a4")}, {"a", at(4, 2), found("a4")}, {"a", at(top, 255), found("a4")},
		{"b", at(1, 255), answer{}}, {"b", at(2, 0), found("b2")}, {"b", at(4, 0), found("b2")}, {"b", at(4, 1), answer{}}, {"b", at(5, 0), answer{}}, {"b", at(top, 255), answer{}},
		{"d", at(6, 2), answer{}}, {"d", at(top, 255), answer{}}, {"aa", at(9, 0), answer{}}, {"A", at(9, 0), answer{}},
	} {
		y.reads(t, c.s, c.when, c.when.Time, c.want)
	}
	y.commit(t, api.OK, 3, at(8, 0))
	for _, c := range []struct {
		when api.Stamp
		want answer
	}{{at(6, 2), answer{}}, {at(7, 255), answer{}}, {at(8, 0), found("c3")}, {at(8, 1), found("c3")}, {at(top, 255), found("c3")}} {
		y.reads(t, "c", c.when, c.when.Time, c.want)
	}
	y.wrote(t, 10, at(8, 0), at(9, 0), w("c", ""))
	y.reads(t, "c", at(9, 0), 9, found(""))
}

// P16.1: Scan of a time that may not be: EARG, whatever else there is.
func TestScanWrong(t *testing.T) {
	y := few(t)
	for _, when := range []api.Stamp{at(-1, 0), at(-1, 255), at(math.MinInt64, 0), at(top+1, 0), at(math.MaxInt64, 255)} {
		for _, now := range []int64{never, -2, -1, 0, top + 1, forever} {
			for _, n := range []int{math.MinInt, -1, 0, 1, 9} {
				y.scans(t, "", "", when, now, n, "", api.EARG)
				y.scans(t, "b", "a", when, now, n, "", api.EARG)
				y.scans(t, "c", "d", when, now, n, "", api.EARG)
			}
		}
	}
	is(t, "R3: a Scan that is refused", y.x, y.p)
}

// P16.1: Scan of a time above now, also of a stretch without keys, and of
// nothing.
func TestScanClock(t *testing.T) {
	y := few(t)
	for _, when := range []int64{0, 1, 4, 5, top} {
		for _, now := range []int64{when - 1, -1, never} {
			for _, n := range []int{-1, 0, 1, 9} {
				y.scans(t, "", "", at(when, 0), now, n, "", api.EWAIT)
				y.scans(t, "b", "a", at(when, 255), now, n, "", api.EWAIT)
				y.scans(t, "x", "y", at(when, 0), now, n, "", api.EWAIT)
			}
		}
		for _, now := range []int64{when, when + 1, forever} {
			y.scans(t, "x", "y", at(when, 255), now, 9, "", api.OK)
		}
	}
	y.scans(t, "", "", at(4, 0), 4, 9, "a a2 b b2", api.OK)
	y.scans(t, "", "", at(4, 1), 4, 9, "a a4", api.OK)
	y.scans(t, "", "", at(4, 255), 3, 9, "", api.EWAIT)
	y.scans(t, "", "c", at(top, 255), forever, 9, "a a4", api.OK)
}

// P16.1: a key that is prepared, at the ends of a stretch, between, outside,
// and behind what `most` would reach.
func TestScanBlocked(t *testing.T) {
	y := few(t)
	s := at(6, 2)
	for _, c := range []struct {
		from, to string
		n        int
		want     string
		err      api.Errno
	}{
		{"", "", 9, "", api.EWAIT}, {"", "", 1, "", api.EWAIT}, {"", "", 0, "", api.EWAIT}, {"", "", -1, "", api.EWAIT}, {"", "", math.MinInt, "", api.EWAIT}, {"a", "", 1, "", api.EWAIT}, {"a", "z", 1, "", api.EWAIT},
		{"c", "", 9, "", api.EWAIT}, {"c", "d", 9, "", api.EWAIT}, {"c", "c\x00\x01", 9, "", api.EWAIT}, {"a", "c\x01", 9, "", api.EWAIT}, {"b", "cc", 9, "", api.EWAIT}, {"f", "", 9, "", api.EWAIT}, {"d", "", 9, "", api.EWAIT}, {"d", "g", 9, "", api.EWAIT},
		{"a", "c", 9, "a a4", api.OK}, {"", "c", 9, "a a4", api.OK}, {"", "c", 0, "", api.OK}, {"", "b\xff", 9, "a a4", api.OK}, {"c\x01", "f", 9, "", api.OK}, {"d", "f", 9, "", api.OK}, {"f\x01", "", 9, "", api.OK}, {"g", "", 9, "", api.OK},
		{"c", "c", 9, "", api.OK}, {"d", "c", 9, "", api.OK}, {"f", "c", 9, "", api.OK}, {"f", "a", 9, "", api.OK}, {"z", "a", 9, "", api.OK},
	} {
		y.scans(t, c.from, c.to, s, forever, c.n, c.want, c.err)
		y.scans(t, c.from, c.to, s, 6, c.n, c.want, c.err)
		y.scans(t, c.from, c.to, at(top, 255), top, c.n, c.want, c.err)
		y.scans(t, c.from, c.to, s, 5, c.n, "", api.EWAIT)
	}
	for _, n := range []int{1, 2, 9} {
		y.scans(t, "", "", at(6, 1), 6, n, "a a4", api.OK)
		y.scans(t, "", "", at(5, 255), 6, n, "a a4", api.OK)
	}
	y.scans(t, "c", "", at(6, 1), 6, 9, "", api.OK)
	y.commit(t, api.OK, 3, at(8, 0))
	y.scans(t, "", "", at(7, 255), 8, 9, "a a4", api.OK)
	y.scans(t, "", "", at(8, 0), 8, 9, "a a4 c c3 f f3", api.OK)
}

// P16.1: the later of two that are prepared blocks as well as the first one.
func TestScanBlockedByOneOfTwo(t *testing.T) {
	for _, first := range []int64{1, 2} {
		y := newPair()
		y.prepare(t, api.OK, e(first, at(1, 0), at(9, 0), w("a", "x"), w("y", "x")), e(3-first, at(1, 0), at(5, 0), w("b", "x"), w("x", "x")))
		y.scans(t, "", "", at(4, 255), 9, 9, "", api.OK)
		y.scans(t, "", "", at(5, 0), 9, 9, "", api.EWAIT)
		y.scans(t, "a", "b", at(8, 255), 9, 9, "", api.OK)
		y.scans(t, "a", "b", at(9, 0), 9, 9, "", api.EWAIT)
		y.scans(t, "b", "x", at(5, 0), 9, 9, "", api.EWAIT)
		y.scans(t, "c", "x", at(9, 0), 9, 9, "", api.OK)
		y.scans(t, "c", "y", at(8, 0), 9, 9, "", api.EWAIT)
		y.scans(t, "xx", "", at(8, 0), 9, 9, "", api.OK)
	}
}

// P16.1: an empty stretch, ends that may not be keys, and `most`.
func TestScanStretches(t *testing.T) {
	y := newPair()
	y.wrote(t, 1, at(0, 0), at(1, 0), w("b", "1"), w("a", "2"), w("d", "3"), w("c", ""), gone("e"), w("sixteen bytes...", "4"))
	all := "a 2 b 1 c  d 3 sixteen bytes... 4"
	for _, c := range []struct {
		from, to string
		n        int
		want     string
	}{
		{"", "", 9, all}, {"", "", 5, all}, {"", "", 6, all}, {"", "", math.MaxInt, all}, {"", "", 4, "a 2 b 1 c  d 3"}, {"", "", 2, "a 2 b 1"}, {"", "", 1, "a 2"}, {"", "", 0, ""}, {"", "", -1, ""}, {"", "", math.MinInt, ""},
		{"b", "", 1, "b 1"}, {"b", "", 2, "b 1 c "}, {"b", "d", 9, "b 1 c "}, {"b", "d\x00\x01", 9, "b 1 c  d 3"}, {"b", "b", 9, ""}, {"d", "b", 9, ""}, {"e", "f", 9, ""}, {"f", "z", 9, "sixteen bytes... 4"},
		{"\x00a", "\x00b", 9, ""}, {"\x00a", "b", 9, "a 2"}, {"a\x00b", "c", 9, "b 1"}, {"a", "a\x00b", 9, "a 2"}, {"", "\x00a", 9, ""}, {strings.Repeat("\x00", 15) + "b", "", 2, "a 2 b 1"}, {"sixteen bytes...", "", 9, "sixteen bytes... 4"},
	} {
		y.scans(t, c.from, c.to, at(1, 0), 1, c.n, c.want, api.OK)
		y.scans(t, c.from, c.to, at(0, 255), 1, c.n, "", api.OK)
	}
}

// P16.1: State of numbers that were never told.
func TestStateUnknown(t *testing.T) {
	for _, y := range []pair{newPair(), few(t)} {
		for _, id := range []int64{math.MinInt64, math.MinInt64 + 1, -3, -2, -1, 0, 6, 7, 1 << 32, 1<<32 + 1, math.MaxInt64 - 1, math.MaxInt64} {
			y.x.Commit(id, at(9, 0))
			y.x.Abort(min(id, 0))
			if got := y.x.State(id); got != 0 {
				t.Errorf("P16.1: State(%d): %d; want 0", id, got)
			}
		}
		is(t, "P16.1: State", y.x, y.p)
	}
}

// P16.1: State of those that were told, again behind each later call that
// names them.
func TestStateStays(t *testing.T) {
	for _, id := range []int64{1, 2, 1 << 32, math.MaxInt64} {
		for state := 1; state <= 3; state++ {
			y := newPair()
			y.prepare(t, api.OK, e(id, at(1, 0), at(5, 0), w("a", "x")))
			switch state {
			case 2:
				y.commit(t, api.OK, id, at(6, 0))
			case 3:
				y.abort(t, api.OK, id)
			}
			stays := func() {
				t.Helper()
				if got := y.x.State(id); got != state {
					t.Fatalf("P16.1: State(%d): %d; want %d", id, got, state)
				}
			}
			stays()
			y.prepare(t, api.EOVER, e(id, at(9, 0), at(10, 0), w("b", "y")))
			stays()
			y.prepare(t, api.EARG, e(id, at(9, 0), at(9, 0), w("b", "y")))
			stays()
			y.commit(t, api.EARG, id, at(-1, 0))
			stays()
			y.play(t, api.EFORM, rec.Record{Kind: 3, ID: id, Yes: true})
			stays()
			y.play(t, api.OK, rec.Record{Kind: 4, ID: id, Yes: true, Stamp: at(9, 0), Parts: []int{0}})
			stays()
			y.trim(t, at(3, 0), 0)
			stays()
			y.commit(t, []api.Errno{0, api.EARG, api.OK, api.EOVER}[state], id, at(4, 0))
			stays()
			if state > 1 {
				y.abort(t, []api.Errno{0, 0, api.EOVER, api.OK}[state], id)
				stays()
			}
		}
	}
}

// bads are entries that are not Good, but for one thing alone; each wants the
// key a.
func bads(id int64) []prep.Entry {
	good := e(id, at(5, 0), at(6, 0), w("a", "x"))
	with := func(l ...api.Write) prep.Entry { return e(id, at(5, 0), at(6, 0), l...) }
	return []prep.Entry{
		e(0, good.Snap, good.Stamp, good.Writes...), e(-1, good.Snap, good.Stamp, good.Writes...), e(math.MinInt64, good.Snap, good.Stamp, good.Writes...),
		e(id, at(-1, 255), at(6, 0), w("a", "x")), e(id, at(math.MinInt64, 0), at(6, 0), w("a", "x")), e(id, at(5, 0), at(top+1, 0), w("a", "x")), e(id, at(5, 0), at(math.MaxInt64, 255), w("a", "x")), e(id, at(top+1, 0), at(top+2, 0), w("a", "x")),
		e(id, at(5, 3), at(5, 3), w("a", "x")), e(id, at(5, 3), at(5, 2), w("a", "x")), e(id, at(5, 3), at(4, 255), w("a", "x")),
		with(), with(append(many("n", writes), w("a", "x"))...), with(w("a", "x"), w("", "x")), with(w("a", "x"), w("\x00a", "x")), with(w("a", "x"), w("a\x00b", "x")), with(w("a", "x"), w("b", "x"), w("a", "x")), with(w("a", "x"), gone("a")),
		with(w("a", strings.Repeat("x", long+1))), with(w("b", "x"), w("a", strings.Repeat("x", long+1))), with(api.Write{Key: k("a"), Value: "x", Gone: true}),
	}
}

// P16.2: Prepare of what prep's Good refuses: EARG, whatever its ID's State
// is, and whatever else could be answered.
func TestPrepareWrong(t *testing.T) {
	for id := int64(1); id <= 6; id++ {
		y := few(t)
		y.prepare(t, api.EARG, bads(id)...)
		y.prepare(t, api.OK, e(20, at(5, 0), at(6, 0), w("a", "x")))
		y.prepare(t, api.EARG, bads(id)...) // 20 has a
		newPair().prepare(t, api.EARG, bads(id)...)
	}
	y := hundred(t)
	for _, one := range bads(500) {
		if got := y.x.Prepare(one); got != api.EARG {
			t.Errorf("P16.2: Prepare(%.300v) of a full one: %v", one, got)
		}
	}
	told(t, "R3: refused", y.x, y.p)
}

// P16.2: Prepare at the ends of what is Good.
func TestPrepareEnds(t *testing.T) {
	for _, one := range []prep.Entry{
		e(1, at(0, 0), at(0, 1), w("a", "x")), e(math.MaxInt64, at(0, 0), at(top, 255), w("a", "")), e(7, at(top, 254), at(top, 255), gone("a")), e(7, at(0, 255), at(1, 0), many("a", writes)...),
		e(7, at(3, 0), at(4, 0), w("sixteen bytes...", strings.Repeat("x", long)), w("\x01", "\x00")),
	} {
		y := newPair()
		y.prepare(t, api.OK, one)
		y.commit(t, api.OK, one.ID, one.Stamp)
		if n := len(y.x.Store().Keys()); n != len(one.Writes) {
			t.Errorf("P16.2: %d keys behind a Commit; want %d", n, len(one.Writes))
		}
	}
}

// P16.2: Prepare of an ID that was told: EOVER, also where a key of it
// conflicts.
func TestPrepareOver(t *testing.T) {
	y := few(t)
	for id := int64(1); id <= 5; id++ {
		for _, l := range [][]api.Write{{w("new", "x")}, {w("a", "x")}, {w("c", "x")}, {w("f", "f3"), w("c", "c3")}, {w("d", "d4")}, many("n", writes)} {
			y.prepare(t, api.EOVER, e(id, at(0, 0), at(6, 2), l...), e(id, at(9, 0), at(10, 0), l...))
		}
	}
	y.prepare(t, api.EOVER, e(3, at(5, 0), at(6, 2), w("f", "f3"), w("c", "c3")))
	y.prepare(t, api.OK, e(6, at(5, 0), at(6, 2), w("d", "d6")))
	y = hundred(t)
	for _, err := range []api.Errno{y.x.Prepare(e(1, at(5, 0), at(6, 2), w("new", "x"))), y.x.Prepare(e(100, at(5, 0), at(6, 2), w("k3", "x")))} {
		if err != api.EOVER {
			t.Errorf("P16.2: Prepare of one that is prepared, of a full one: %v", err)
		}
	}
}

// P16.2: a version newer than Snap, by its Time, by its Node alone, at just
// Snap, and below it; a value, or gone.
func TestPrepareNewer(t *testing.T) {
	for _, one := range []api.Write{w("a", "x"), w("a", ""), gone("a")} {
		for _, c := range []struct {
			snap api.Stamp
			want api.Errno
		}{
			{at(0, 0), api.ECONFLICT}, {at(3, 0), api.ECONFLICT}, {at(3, 1), api.ECONFLICT}, {at(3, 255), api.ECONFLICT}, {at(4, 255), api.ECONFLICT}, {at(5, 0), api.ECONFLICT}, {at(5, 2), api.ECONFLICT},
			{at(5, 3), api.OK}, {at(5, 4), api.OK}, {at(5, 255), api.OK}, {at(6, 0), api.OK}, {at(6, 2), api.OK}, {at(top, 0), api.OK},
		} {
			// An elder version of the key, and newer ones of others, are nothing.
			y := newPair()
			y.wrote(t, 1, at(0, 0), at(3, 1), w("a", "old"), w("b", "old"))
			y.wrote(t, 2, at(3, 1), at(5, 3), one)
			y.wrote(t, 3, at(3, 1), at(top, 0), w("b", "new"), w("aa", "new"))
			y.prepare(t, c.want, e(9, c.snap, at(top, 255), w("a", "mine")))
			y.prepare(t, api.ECONFLICT, e(10, at(0, 0), at(top, 255), w("b", "mine")))
		}
	}
}

// P16.2: a conflict at each place among several keys, by a version and by a
// Holder.
func TestPrepareConflictPlaces(t *testing.T) {
	y := few(t)
	for _, n := range []int{1, 2, 3, writes} {
		for place := range n {
			for _, one := range []api.Write{w("a", "x"), gone("b"), w("c", "x"), gone("f")} {
				l := many("n", n)
				l[place] = one
				y.prepare(t, api.ECONFLICT, e(9, at(3, 0), at(9, 0), l...))
			}
		}
	}
	y.prepare(t, api.ECONFLICT, e(9, at(0, 0), at(9, 0), w("a", "x"), w("b", "x"), w("c", "x"), w("f", "x")))
	// A Holder conflicts whatever its stamp is, and whatever the snapshot.
	for _, s := range []api.Stamp{at(0, 0), at(5, 0), at(6, 1), at(6, 2), at(6, 3), at(7, 0), at(top, 0)} {
		y.prepare(t, api.ECONFLICT, e(9, s, at(top, 255), w("c", "x")), e(9, s, at(top, 255), w("new", "x"), gone("f")))
	}
	y.prepare(t, api.OK, e(9, at(4, 1), at(4, 2), w("a", "x"), w("b", "x"), w("new", "x"), w("d", "x")))
	y.prepare(t, api.ECONFLICT, e(10, at(4, 1), at(4, 2), w("d", "y")))
	y.abort(t, api.OK, 9)
	y.prepare(t, api.OK, e(10, at(4, 1), at(4, 2), w("d", "y")))
}

// hundred has a hundred that are prepared: 1 (k0), 2 (k1) ..
func hundred(t *testing.T) pair {
	t.Helper()
	y := newPair()
	for i := range int64(entries) {
		y.ready(t, e(i+1, at(1, 0), at(5+i, 0), w("k"+strconv.Itoa(int(i)), "v")))
	}
	told(t, "P16.2: a hundred", y.x, y.p)
	return y
}

// P16.2: a hundred that are prepared, and one more.
func TestPrepareHundred(t *testing.T) {
	y := hundred(t)
	y.prepare(t, api.EFULL, e(101, at(1, 0), at(5, 0), w("new", "x")))
	y.prepare(t, api.EFULL, e(math.MaxInt64, at(1, 0), at(5, 0), many("n", writes)...))
	y.prepare(t, api.ECONFLICT, e(101, at(1, 0), at(5, 0), w("new", "x"), w("k99", "x")))
	y.abort(t, api.OK, 200) // it was not there: nothing is free
	y.prepare(t, api.EFULL, e(101, at(1, 0), at(5, 0), w("new", "x")))
	y.abort(t, api.OK, 50)
	y.prepare(t, api.OK, e(101, at(1, 0), at(5, 0), w("new", "x")))
	y.prepare(t, api.EFULL, e(102, at(1, 0), at(5, 0), w("newer", "x")))
	y.commit(t, api.OK, 7, at(11, 0))
	y.prepare(t, api.OK, e(102, at(1, 0), at(5, 0), w("newer", "x")))
	y.prepare(t, api.EFULL, e(103, at(1, 0), at(5, 0), w("newest", "x")))
}

// tall has n versions of k, at 1.0, 2.0 .., and one of other.
func tall(t *testing.T, n int) pair {
	t.Helper()
	y := newPair()
	y.wrote(t, 1000, at(0, 0), at(1, 0), w("other", "x"))
	for i := range int64(n) {
		y.wrote(t, i+1, at(i, 0), at(i+1, 0), w("k", strconv.Itoa(int(i))))
	}
	told(t, "P16.2: tall", y.x, y.p)
	return y
}

// P16.2: a key with MaxChain versions, and with one less.
func TestPrepareChain(t *testing.T) {
	y := tall(t, deep)
	for _, l := range [][]api.Write{{w("k", "x")}, {gone("k")}, {w("other", "x"), w("k", "x")}, {w("k", "x"), w("new", "x")}, append(many("n", writes-1), w("k", "x"))} {
		y.prepare(t, api.EFULL, e(99, at(deep, 0), at(60, 0), l...), e(99, at(top, 0), at(top, 1), l...))
		y.prepare(t, api.ECONFLICT, e(99, at(deep-1, 255), at(60, 0), l...))
	}
	y.prepare(t, api.OK, e(99, at(deep, 0), at(60, 0), w("other", "x"), w("new", "x")))
	y.prepare(t, api.ECONFLICT, e(98, at(deep, 0), at(60, 0), w("k", "x"), w("other", "x")))
	y.trim(t, at(1, 255), 0)
	y.prepare(t, api.EFULL, e(98, at(deep, 0), at(60, 0), w("k", "x")))
	y.trim(t, at(2, 0), 1)
	y.prepare(t, api.OK, e(98, at(deep, 0), at(60, 0), w("k", "x")))
	y.prepare(t, api.ECONFLICT, e(97, at(deep, 0), at(60, 0), w("k", "x")))
	y.commit(t, api.OK, 98, at(top, 255))
}

// P16.2: one version less than MaxChain: one more fits, and it is full then.
func TestPrepareChainLess(t *testing.T) {
	y := tall(t, deep-1)
	y.prepare(t, api.OK, e(98, at(deep-1, 0), at(60, 0), w("k", "x")))
	y.prepare(t, api.ECONFLICT, e(99, at(deep-1, 0), at(60, 0), w("k", "x")))
	y.abort(t, api.OK, 98)
	y.prepare(t, api.OK, e(99, at(deep-1, 0), at(60, 0), w("k", "x")))
	y.commit(t, api.OK, 99, at(60, 0))
	y.prepare(t, api.EFULL, e(97, at(60, 0), at(61, 0), w("k", "x")))
	y.reads(t, "k", at(60, 0), 60, found("x"))
}

// wide has n keys (w0, w1 ..) of one version each, at 2.0, by 1001, 1002 ..
func wide(t *testing.T, n int) pair {
	t.Helper()
	y := newPair()
	l := many("w", n)
	for i := 0; i < n; i += writes {
		y.wrote(t, int64(1001+i), at(1, 0), at(2, 0), l[i:min(i+writes, n)]...)
	}
	told(t, "P16.2: wide", y.x, y.p)
	return y
}

// late is an entry that nothing speaks against, but for its keys.
func late(id int64, l ...api.Write) prep.Entry { return e(id, at(5, 0), at(6, 0), l...) }

// P16.2: MaxKeys keys that are there, and some less.
func TestPrepareKeys(t *testing.T) {
	y := wide(t, allKeys)
	y.prepare(t, api.EFULL, late(1, w("new", "x")), late(1, gone("new")), late(1, w("w0", "x"), w("new", "x")), late(1, append(many("w", writes-1), gone("new"))...))
	y.prepare(t, api.OK, late(1, many("w", writes)...), late(2, w("w199", "x"), gone("w198")))
	y.prepare(t, api.EFULL, late(3, w("new", "x")), late(3, w("w50", "x"), w("new", "x")))
	y.prepare(t, api.ECONFLICT, late(3, w("new", "x"), w("w199", "x")), e(3, at(1, 0), at(6, 0), w("new", "x"), w("w50", "x")))
	y.commit(t, api.OK, 1, at(6, 0))
	y.commit(t, api.OK, 2, at(6, 0))
	y.prepare(t, api.EFULL, late(3, w("new", "x")))
	for _, less := range []int{1, 7, writes} {
		y = wide(t, allKeys-less)
		if less < writes {
			y.prepare(t, api.EFULL, late(1, many("n", less+1)...))
		}
		y.prepare(t, api.OK, late(2, many("n", less)...))
		y.prepare(t, api.EFULL, late(3, w("new", "x")))
		y.prepare(t, api.OK, late(3, w("w0", "x")))
		y.abort(t, api.OK, 2)
		y.prepare(t, api.OK, late(4, many("o", less)...))
		y.prepare(t, api.EFULL, late(5, w("n0", "x")))
		y.commit(t, api.OK, 4, at(7, 0))
		y.prepare(t, api.EFULL, late(5, w("n0", "x")))
	}
}

// P16.2: MaxKeys keys of which some are prepared alone, and some are both
// there and prepared, which count once.
func TestPrepareKeysMixed(t *testing.T) {
	y := wide(t, 180)
	y.prepare(t, api.OK, late(1, many("n", 10)...), late(2, many("w", writes)...)) // 190
	y.prepare(t, api.EFULL, late(3, many("o", 11)...))
	y.prepare(t, api.EFULL, late(3, append(many("o", 11), w("w20", "x"))...))
	y.prepare(t, api.OK, late(3, append(many("o", 10), w("w20", "x"), w("w21", ""), gone("w22"))...)) // 200
	y.prepare(t, api.EFULL, late(4, w("new", "x")), late(4, w("w30", "x"), w("new", "x")))
	y.prepare(t, api.OK, late(4, w("w30", "x")))
	y.commit(t, api.OK, 2, at(7, 0))
	y.prepare(t, api.EFULL, late(5, w("new", "x")))
	y.commit(t, api.OK, 3, at(7, 0))
	y.prepare(t, api.EFULL, late(5, w("new", "x")))
	y.abort(t, api.OK, 1) // 190
	y.prepare(t, api.EFULL, late(5, many("p", 11)...))
	y.prepare(t, api.OK, late(5, many("p", 10)...))
	y.commit(t, api.OK, 4, at(6, 0))
	y.commit(t, api.OK, 5, at(6, 0))
	if n := len(y.x.Store().Keys()); n != allKeys {
		t.Errorf("P16.2: %d keys; want %d", n, allKeys)
	}
}

// P16.2: MaxKeys keys of which all are prepared, and none is there.
func TestPrepareKeysAlone(t *testing.T) {
	y := newPair()
	l := many("n", allKeys+1)
	for i := 0; i < 192; i += writes {
		y.ready(t, late(int64(i+1), l[i:i+writes]...))
	}
	y.prepare(t, api.EFULL, late(500, l[192:201]...))
	y.prepare(t, api.OK, late(500, l[192:199]...), late(501, l[199]))
	y.prepare(t, api.EFULL, late(502, l[200]))
	y.prepare(t, api.ECONFLICT, late(502, l[200], l[199]))
	y.abort(t, api.OK, 501)
	y.prepare(t, api.OK, late(502, l[200]))
	y.prepare(t, api.EFULL, late(503, l[199]))
	for _, id := range y.x.Prepared() {
		if err := y.x.Commit(id, at(9, 9)); err != api.OK || y.p.commit(id, at(9, 9)) != api.OK {
			t.Errorf("P16.2: Commit of %d of those that have all keys: %v", id, err)
		}
	}
	is(t, "P16.2: all were committed", y.x, y.p)
	y.prepare(t, api.EFULL, e(503, at(9, 9), at(10, 0), l[199]))
}

// P16.2: a key that is gone is a key, till it is trimmed; one that is prepared
// stays one.
func TestPrepareKeysTrimmed(t *testing.T) {
	y := wide(t, allKeys-2)
	y.wrote(t, 1, at(1, 0), at(3, 0), gone("x"), gone("y"))
	y.prepare(t, api.EFULL, late(2, w("new", "x")))
	y.prepare(t, api.OK, late(3, w("x", "x")))
	y.trim(t, at(2, 255), 0)
	y.prepare(t, api.EFULL, late(2, w("new", "x")))
	y.trim(t, at(3, 0), 2)
	y.prepare(t, api.EFULL, late(2, w("new", "x"), w("y", "x")))
	y.prepare(t, api.OK, late(4, w("new", "x")))
	y.prepare(t, api.EFULL, late(2, w("y", "x")))
	y.commit(t, api.OK, 3, at(7, 0))
	y.commit(t, api.OK, 4, at(7, 0))
	y.prepare(t, api.EFULL, late(2, w("y", "x")))
}

// P16.2, R6: EARG ahead of EOVER ahead of ECONFLICT ahead of EFULL.
func TestPrepareErrorsInOrder(t *testing.T) {
	y := hundred(t)
	full := e(500, at(1, 0), at(5, 0), w("new", "x"))
	for _, c := range []struct {
		one  prep.Entry
		want api.Errno
	}{
		{e(1, at(1, 0), at(1, 0), w("k5", "x")), api.EARG}, {e(500, at(1, 0), at(1, 0), w("k5", "x")), api.EARG}, {e(1, at(1, 0), at(2, 0), w("k5", "x")), api.EOVER}, {e(500, at(1, 0), at(2, 0), w("k5", "x")), api.ECONFLICT}, {full, api.EFULL},
	} {
		if err, plainly := y.x.Prepare(c.one), y.p.prepare(c.one); err != c.want || plainly != c.want {
			t.Errorf("P16.2: Prepare(%v): %v; want %v", c.one, err, c.want)
		}
	}
	told(t, "R3: refused", y.x, y.p)
	y = tall(t, deep)
	// One of its keys is full, another one has a newer version, or a Holder.
	y.prepare(t, api.OK, e(500, at(deep, 0), at(60, 0), w("held", "x")))
	for _, s := range []string{"held", "k"} {
		y.prepare(t, api.ECONFLICT, e(501, at(deep-1, 0), at(60, 0), w(s, "x"), w("k5", "x")), e(501, at(deep, 0), at(60, 0), w("k", "x"), w("held", "x")))
	}
	y.prepare(t, api.EFULL, e(501, at(deep, 0), at(60, 0), w("k", "x")))
}

// P16.2: Commit of a time that may not be: EARG, whatever the State is.
func TestCommitWrong(t *testing.T) {
	y := few(t)
	for _, id := range []int64{math.MinInt64, -1, 0, 1, 2, 3, 4, 5, 6, math.MaxInt64} {
		for _, s := range []api.Stamp{at(-1, 0), at(-1, 255), at(math.MinInt64, 0), at(top+1, 0), at(math.MaxInt64, 255)} {
			y.commit(t, api.EARG, id, s)
		}
	}
	for _, id := range []int64{math.MinInt64, -3, -1, 0, 6, 7, math.MaxInt64} {
		for _, s := range []api.Stamp{at(0, 0), at(6, 2), at(top, 255)} {
			y.commit(t, api.ENONE, id, s)
		}
	}
}

// P16.2: Commit of one that is committed: OK, and nothing changes; of one that
// is aborted: EOVER.
func TestCommitAgain(t *testing.T) {
	y := few(t)
	y.commit(t, api.OK, 3, at(7, 0))
	for _, s := range []api.Stamp{at(0, 0), at(2, 0), at(4, 1), at(6, 2), at(7, 0), at(7, 1), at(9, 0), at(top, 255)} {
		for _, id := range []int64{1, 2, 3} {
			y.commit(t, api.OK, id, s)
		}
		y.commit(t, api.EOVER, 4, s)
		y.commit(t, api.EOVER, 5, s)
	}
	y.scans(t, "", "", at(top, 255), top, 9, "a a4 c c3 f f3", api.OK)
	// Its keys are another's meanwhile.
	y.prepare(t, api.OK, e(10, at(8, 0), at(9, 0), w("c", "c10")))
	y.commit(t, api.OK, 3, at(10, 0))
	y.reads(t, "c", at(10, 0), 10, refusal(api.EWAIT))
	y.commit(t, api.OK, 10, at(10, 0))
	y.reads(t, "c", at(10, 0), 10, found("c10"))
}

// P16.2: Commit below the entry's Stamp: EARG, and it is still prepared; at
// it, and above it.
func TestCommitStamps(t *testing.T) {
	for _, s := range []api.Stamp{at(6, 2), at(6, 3), at(6, 255), at(7, 0), at(7, 1), at(99, 2), at(top, 0), at(top, 255)} {
		y := few(t)
		for _, low := range []api.Stamp{at(0, 0), at(2, 0), at(5, 0), at(5, 2), at(5, 255), at(6, 0), at(6, 1)} {
			y.commit(t, api.EARG, 3, low)
			if got := y.x.State(3); got != 1 {
				t.Fatalf("P16.2: State behind a Commit at %v: %d", low, got)
			}
		}
		y.reads(t, "c", at(6, 2), forever, refusal(api.EWAIT))
		y.commit(t, api.OK, 3, s)
		if got := y.x.State(3); got != 2 || len(y.x.Prepared()) != 0 {
			t.Fatalf("P16.2: State behind a Commit at %v: %d", s, got)
		}
		for _, one := range []string{"c", "f"} {
			y.reads(t, one, s, forever, found(one+"3"))
			y.reads(t, one, at(top, 255), forever, found(one+"3"))
			if s != at(6, 2) {
				y.reads(t, one, at(6, 2), forever, answer{})
			}
			want := []chain.Version{{Stamp: s, Value: one + "3"}}
			if got := y.x.Store().Chain(k(one)); !slices.Equal(got, want) {
				t.Errorf("P16.2: Chain(%s) behind a Commit at %v: %v", one, s, got)
			}
		}
	}
}

// P16.2: what was prepared can be committed at stamps at which others were, in
// any order.
func TestCommitAlike(t *testing.T) {
	for _, ids := range [][]int64{{1, 2, 3}, {3, 2, 1}, {2, 3, 1}} {
		y := newPair()
		y.prepare(t, api.OK, e(1, at(1, 0), at(5, 0), w("a", "x"), w("b", "x")), e(2, at(1, 0), at(6, 0), gone("c")), e(3, at(2, 0), at(3, 0), w("d", "x")))
		for _, id := range ids {
			y.commit(t, api.OK, id, at(6, 0))
		}
	}
	// One key, at rising stamps, by many, each prepared behind the last one.
	y := newPair()
	for i := range int64(deep) {
		y.prepare(t, api.OK, e(i+1, at(2*i, 0), at(2*i+1, 0), w("a", strconv.Itoa(int(i)))))
		y.commit(t, api.OK, i+1, at(2*i+2, 0))
	}
}

// P16.2: a version of just that Stamp: EEXIST, and it is still prepared. No
// call can bring one about, as a key that is prepared takes no other version,
// and all that it has are not above the entry's Snap: so it is laid in here.
func TestCommitExists(t *testing.T) {
	for _, s := range []string{"c", "f"} {
		y := few(t)
		there := []api.Write{w(s, "laid in"), w("other", "x")}
		if err := y.x.store.Apply(at(7, 1), there...); err != api.OK {
			t.Fatalf("Apply: %v", err)
		}
		for _, a := range there {
			y.p.rows = append(y.p.rows, row{a.Key, chain.Version{Stamp: at(7, 1), Value: a.Value}})
		}
		y.commit(t, api.EEXIST, 3, at(7, 1))
		if got := y.x.State(3); got != 1 {
			t.Errorf("P16.2: State behind EEXIST: %d", got)
		}
		y.commit(t, api.EARG, 3, at(6, 1))
		y.commit(t, api.OK, 3, at(7, 2))
	}
}

// P16.2: Abort of IDs below 1, of an unknown one, and of each State.
func TestAbort(t *testing.T) {
	y := few(t)
	y.abort(t, api.EARG, 0, -1, -3, math.MinInt64)
	y.abort(t, api.EOVER, 1, 2, 1)
	y.abort(t, api.OK, 4, 5, 4)
	for _, id := range []int64{6, 1 << 40, math.MaxInt64} {
		y.abort(t, api.OK, id)
		if got := y.x.State(id); got != 3 {
			t.Errorf("P16.2: State behind Abort(%d): %d", id, got)
		}
		y.prepare(t, api.EOVER, e(id, at(5, 0), at(6, 0), w("new", "x")), e(id, at(5, 0), at(6, 0), w("c", "x")))
		y.commit(t, api.EOVER, id, at(9, 0))
		y.abort(t, api.OK, id)
	}
	newPair().abort(t, api.OK, 1)
	newPair().abort(t, api.EARG, 0)

	// What was prepared goes: its keys are free, and what waited is read.
	y.reads(t, "c", at(9, 0), 9, refusal(api.EWAIT))
	y.scans(t, "", "", at(9, 0), 9, 9, "", api.EWAIT)
	y.prepare(t, api.ECONFLICT, e(10, at(5, 0), at(6, 0), w("c", "x")))
	y.abort(t, api.OK, 3)
	y.reads(t, "c", at(9, 0), 9, answer{})
	y.scans(t, "", "", at(9, 0), 9, 9, "a a4", api.OK)
	y.commit(t, api.EOVER, 3, at(9, 0))
	y.prepare(t, api.OK, e(10, at(5, 0), at(6, 0), w("c", "c10")))
	y.abort(t, api.OK, 3)
	y.reads(t, "c", at(9, 0), 9, refusal(api.EWAIT))
	y.commit(t, api.OK, 10, at(9, 0))
	y.abort(t, api.EOVER, 10)
	y.reads(t, "c", at(9, 0), 9, found("c10"))
}

// P16.2: Play of records that are not Good: EFORM, whatever else could be
// answered.
func TestPlayWrong(t *testing.T) {
	y := few(t)
	l := []rec.Record{
		{}, {Kind: 0, ID: 3}, {Kind: 6, ID: 3}, {Kind: -1, ID: 3}, {Kind: math.MaxInt, ID: 3}, {Kind: math.MinInt},
		{Kind: 2}, {Kind: 2, ID: -3, Stamp: at(9, 0)}, {Kind: 2, ID: 3, Stamp: at(-1, 0)}, {Kind: 2, ID: 3, Stamp: at(top+1, 0)}, {Kind: 2, ID: 3, Stamp: at(9, 0), Yes: true}, {Kind: 2, ID: 3, Stamp: at(9, 0), Snap: at(5, 0)}, {Kind: 2, ID: 3, Stamp: at(9, 0), Parts: []int{0}}, {Kind: 2, ID: 3, Stamp: at(9, 0), Writes: many("n", 1)},
		{Kind: 3}, {Kind: 3, ID: -1}, {Kind: 3, ID: math.MinInt64}, {Kind: 3, ID: 3, Stamp: at(6, 2)}, {Kind: 3, ID: 3, Snap: at(5, 0)}, {Kind: 3, ID: 3, Yes: true}, {Kind: 3, ID: 3, Writes: many("n", 1)}, {Kind: 3, ID: 3, Parts: []int{0}},
		{Kind: 4, ID: 9}, {Kind: 4, ID: 9, Parts: []int{8}}, {Kind: 4, ID: 9, Parts: []int{1, 0}}, {Kind: 4, ID: 0, Parts: []int{0}}, {Kind: 4, ID: 9, Stamp: at(1, 0), Parts: []int{0}}, {Kind: 5, ID: 1, Stamp: at(9, 0)}, {Kind: 5, Stamp: at(9, 1)}, {Kind: 5, Stamp: at(-1, 0)},
	}
	for _, one := range bads(9) {
		l = append(l, rec.Record{Kind: 1, ID: one.ID, Snap: one.Snap, Stamp: one.Stamp, Writes: one.Writes})
	}
	for _, id := range []int64{1, 3, 4, 9} {
		r := record(e(id, at(5, 0), at(6, 0), w("a", "x")))
		r.Yes = true
		l = append(l, r)
		r.Yes, r.Parts = false, []int{0}
		l = append(l, r)
	}
	y.play(t, api.EFORM, l...)
}

func record(one prep.Entry) rec.Record {
	return rec.Record{Kind: 1, ID: one.ID, Snap: one.Snap, Stamp: one.Stamp, Writes: one.Writes}
}

// P16.2: Play of each Kind, as Prepare, Commit and Abort; the others nothing.
func TestPlay(t *testing.T) {
	y := newPair()
	y.play(t, api.OK, record(e(1, at(0, 0), at(5, 0), w("b", "x"), gone("a"))))
	y.play(t, api.EOVER, record(e(1, at(0, 0), at(5, 0), w("b", "x"), gone("a"))))
	y.play(t, api.ECONFLICT, record(e(2, at(9, 0), at(10, 0), w("b", "x"))))
	y.play(t, api.ENONE, rec.Record{Kind: 2, ID: 2, Stamp: at(9, 0)})
	y.play(t, api.EARG, rec.Record{Kind: 2, ID: 1, Stamp: at(4, 255)}, rec.Record{Kind: 2, ID: 1})
	for _, id := range []int64{1, 2, 3} {
		y.play(t, api.OK, rec.Record{Kind: 4, ID: id, Yes: true, Stamp: at(9, 0), Parts: []int{0, 7}}, rec.Record{Kind: 4, ID: id, Parts: []int{3}})
	}
	y.play(t, api.OK, rec.Record{Kind: 5}, rec.Record{Kind: 5, Stamp: at(top, 0)})
	y.play(t, api.OK, rec.Record{Kind: 2, ID: 1, Stamp: at(7, 3)}, rec.Record{Kind: 2, ID: 1, Stamp: at(4, 0)})
	y.reads(t, "b", at(7, 3), 7, found("x"))
	y.play(t, api.EOVER, rec.Record{Kind: 3, ID: 1})
	y.play(t, api.OK, record(e(2, at(9, 0), at(10, 0), w("b", "y"))), rec.Record{Kind: 3, ID: 2}, rec.Record{Kind: 3, ID: 2}, rec.Record{Kind: 3, ID: 3})
	y.play(t, api.EOVER, rec.Record{Kind: 2, ID: 2, Stamp: at(10, 0)}, record(e(3, at(9, 0), at(10, 0), w("b", "y"))))
	y.play(t, api.ECONFLICT, record(e(4, at(7, 2), at(10, 0), w("b", "y"))))
	if got := []int{y.x.State(1), y.x.State(2), y.x.State(3), y.x.State(4)}; !slices.Equal(got, []int{2, 3, 3, 0}) {
		t.Errorf("P16.2: States behind Play: %v", got)
	}
	y = tall(t, deep)
	y.play(t, api.EFULL, record(e(99, at(deep, 0), at(60, 0), w("k", "x"))))
}

// P16.2: Prepared rises, in whichever order they were told.
func TestPrepared(t *testing.T) {
	y := newPair()
	ids := []int64{math.MaxInt64, 1 << 32, 1<<32 - 1, 256, 10, 9, 2, 1}
	for i, id := range ids {
		y.prepare(t, api.OK, e(id, at(1, 0), at(int64(9-i), 0), w("k"+strconv.Itoa(i), "x")))
		want := slices.Clone(ids[:i+1])
		slices.Reverse(want)
		if got := y.x.Prepared(); !slices.Equal(got, want) {
			t.Fatalf("P16.2: Prepared: %v; want %v", got, want)
		}
	}
	y.commit(t, api.OK, 256, at(9, 0))
	y.abort(t, api.OK, 1, 3)
	y.commit(t, api.OK, math.MaxInt64, at(9, 0))
	if got, want := y.x.Prepared(), []int64{2, 9, 10, 1<<32 - 1, 1 << 32}; !slices.Equal(got, want) {
		t.Errorf("P16.2: Prepared: %v; want %v", got, want)
	}
}

// P16.2, R4: Store tells what was committed alone, as new memory: what is done
// to it changes nothing, and it does not change with what is told later.
func TestStore(t *testing.T) {
	y := few(t)
	early := y.x.Store()
	if got, want := early.Keys(), []api.Key{k("a"), k("b")}; !slices.Equal(got, want) {
		t.Errorf("P16.2: Store: the keys %s; want %s", got, want)
	}
	mine := y.x.Store()
	for _, s := range []string{"a", "c", "e", "f"} {
		if err := mine.Apply(at(7, 0), w(s, "mine")); err != api.OK {
			t.Fatalf("P16.2: Apply to what Store told: %v", err)
		}
	}
	mine.Trim(at(4, 1))
	is(t, "R4: what Store told was written into", y.x, y.p)
	y.commit(t, api.OK, 3, at(7, 0))
	if got := early.Keys(); len(got) != 2 || len(mine.Keys()) != 4 {
		t.Errorf("R4: what Store told changed: %s, %s", got, mine.Keys())
	}
	y.trim(t, at(top, 255), 3)
	if got := len(early.Chain(k("a"))); got != 2 {
		t.Errorf("R4: what Store told was trimmed: %d versions of a", got)
	}
}

// P16.2: Trim: how many go, also while something is prepared.
func TestTrim(t *testing.T) {
	for _, c := range []struct {
		s    api.Stamp
		want int
	}{
		{at(math.MinInt64, 0), 0}, {at(-1, 0), 0}, {at(0, 0), 0}, {at(1, 255), 0}, {at(2, 0), 0}, {at(4, 0), 0},
		{at(4, 1), 3}, {at(5, 0), 3}, {at(6, 2), 3}, {at(top, 255), 3}, {at(top+1, 0), 3}, {at(math.MaxInt64, 255), 3},
	} {
		y := few(t)
		y.trim(t, c.s, c.want)
		y.trim(t, c.s, 0)
		y.reads(t, "c", at(6, 2), 6, refusal(api.EWAIT))
		y.commit(t, api.OK, 3, at(6, 2))
		y.reads(t, "c", at(6, 2), 6, found("c3"))
		y.trim(t, at(top, 255), 3-c.want)
	}
	// One that is prepared has keys that are trimmed.
	y := few(t)
	y.prepare(t, api.OK, e(9, at(4, 1), at(5, 0), w("a", "a9"), w("b", "b9")))
	y.trim(t, at(9, 0), 3)
	y.reads(t, "b", at(4, 255), 9, answer{})
	y.reads(t, "a", at(5, 0), 9, refusal(api.EWAIT))
	y.prepare(t, api.ECONFLICT, e(10, at(9, 0), at(10, 0), w("b", "x")))
	y.commit(t, api.OK, 9, at(5, 0))
	y.reads(t, "b", at(5, 0), 9, found("b9"))
	y.trim(t, at(9, 0), 1)
}

// R5: two parts know nothing of each other.
func TestTwoParts(t *testing.T) {
	y, z := few(t), newPair()
	is(t, "the other one", z.x, z.p)
	z.prepare(t, api.OK, e(3, at(1, 0), at(2, 0), w("a", "mine"), w("mine", "")))
	z.abort(t, api.OK, 1)
	is(t, "the one", y.x, y.p)
	y.commit(t, api.OK, 3, at(9, 0))
	y.prepare(t, api.OK, e(9, at(9, 0), at(10, 0), w("mine", "")))
	is(t, "the other one", z.x, z.p)
}

// R4: the lists that are handed in are as they were, spare room included, and
// are not kept.
func TestListsStay(t *testing.T) {
	for _, played := range []bool{false, true} {
		y := few(t)
		room := []api.Write{w("z", "z"), w("x", "x"), gone("y"), w("v", strings.Repeat("v", long)), w("spare", "s"), {Value: "spare", Gone: true}}
		was := slices.Clone(room)
		for _, c := range []struct {
			id   int64
			n    int
			want api.Errno
		}{{10, 6, api.EARG}, {1, 4, api.EOVER}, {10, 4, api.OK}, {11, 4, api.ECONFLICT}, {11, 0, api.EARG}} {
			one, want := e(c.id, at(5, 0), at(6, 0), room[:c.n]...), c.want
			got := api.OK
			if played {
				got = y.x.Play(record(one))
			} else {
				got = y.x.Prepare(one)
			}
			if played && want == api.EARG {
				want = api.EFORM
			}
			y.p.prepare(e(c.id, at(5, 0), at(6, 0), was[:c.n]...))
			if got != want || !slices.Equal(room, was) {
				t.Fatalf("R4: Prepare of %d: %v; want %v; the list: %v", c.id, got, want, room)
			}
		}
		for i := range room {
			room[i] = w("over", "written")
		}
		is(t, "R4: the list was written into", y.x, y.p)
		y.commit(t, api.OK, 10, at(6, 0))
		parts := []int{0, 1, 2, 9}
		y.play(t, api.OK, rec.Record{Kind: 4, ID: 1, Parts: parts[:3]})
		if !slices.Equal(parts, []int{0, 1, 2, 9}) {
			t.Errorf("R4: Play changed Parts: %v", parts)
		}
	}
}

// R4: what is written into an answer, or into the room behind it, changes
// neither the part nor another answer.
func TestAnswersAreNewMemory(t *testing.T) {
	y := few(t)
	y.ready(t, e(8, at(5, 0), at(7, 0), w("x", "x")), e(9, at(5, 0), at(8, 0), w("y", "y")))
	ids, items := y.x.Prepared(), scanAll(y.x, at(5, 0))
	for range 3 {
		l, one := y.x.Prepared(), scanAll(y.x, at(5, 0))
		for i := range l[:cap(l)] {
			l[:cap(l)][i] = 99
		}
		for i := range one[:cap(one)] {
			one[:cap(one)][i] = api.Item{Key: k("over"), Value: "written"}
		}
		is(t, "R4: an answer was written into", y.x, y.p)
	}
	y.commit(t, api.OK, 3, at(7, 0))
	y.abort(t, api.OK, 8)
	if !slices.Equal(ids, []int64{3, 8, 9}) || !slices.Equal(items, []api.Item{{Key: k("a"), Value: "a4"}}) {
		t.Errorf("R4: an answer changed: %v, %v", ids, items)
	}
}

func scanAll(x *Part, s api.Stamp) []api.Item {
	l, _ := x.Scan(api.Key{}, api.Key{}, s, forever, math.MaxInt)
	return l
}

// anyStamp draws one of few, seldom one that may not be.
func anyStamp(r *rand.Rand, from int64) api.Stamp {
	if r.Intn(40) == 0 {
		return ends()[r.Intn(6)]
	}
	return at(from+int64(r.Intn(12)), uint8(r.Intn(3)))
}

// anyWrites draws writes of few keys.
func anyWrites(r *rand.Rand, keys int) []api.Write {
	var l []api.Write
	for range 1 + r.Intn(min(1+keys/4, writes)) {
		one := w("k"+strconv.Itoa(r.Intn(keys)), strings.Repeat("v", r.Intn(4)))
		if slices.ContainsFunc(l, func(a api.Write) bool { return a.Key == one.Key }) && r.Intn(20) > 0 {
			continue
		}
		if r.Intn(6) == 0 {
			one.Value, one.Gone = "", true
		}
		l = append(l, one)
	}
	return l
}

// anyID draws the number of one that is prepared, or any.
func (y pair) anyID(r *rand.Rand) int64 {
	if l := y.p.prepared(); len(l) > 0 && r.Intn(4) > 0 {
		return l[r.Intn(len(l))]
	}
	return int64(r.Intn(300)) - 1
}

// step does any call to both, and tells what they answered.
func (y pair) step(r *rand.Rand, keys int, now int64) (what string, got, want api.Errno) {
	switch n := r.Intn(100); {
	case n < 60:
		one := e(int64(r.Intn(4000)), anyStamp(r, now), anyStamp(r, now+6), anyWrites(r, keys)...)
		if n < 10 {
			return "Play 1", y.x.Play(record(one)), y.p.play(record(one))
		}
		return "Prepare", y.x.Prepare(one), y.p.prepare(one)
	case n < 80:
		id, s := y.anyID(r), anyStamp(r, now+12)
		if n < 65 {
			c := rec.Record{Kind: 2, ID: id, Stamp: s}
			return "Play 2", y.x.Play(c), y.p.play(c)
		}
		return "Commit", y.x.Commit(id, s), y.p.commit(id, s)
	case n < 90:
		id := y.anyID(r)
		if n < 85 {
			c := rec.Record{Kind: 3, ID: id}
			return "Play 3", y.x.Play(c), y.p.play(c)
		}
		return "Abort", y.x.Abort(id), y.p.abort(id)
	case n < 93:
		s := anyStamp(r, max(now-20, 0))
		return "Trim", api.Errno(y.x.Trim(s)), api.Errno(y.p.trim(s))
	}
	c := rec.Record{Kind: 4 + r.Intn(2), Stamp: at(now, 0)}
	return "Play of another", y.x.Play(c), y.p.play(c)
}

// allCommit fails, unless each that is prepared can be committed at a stamp
// not below its own.
func (y pair) allCommit(t *testing.T, r *rand.Rand) {
	t.Helper()
	for _, one := range slices.Clone(y.p.pend) {
		s := one.Stamp
		switch r.Intn(3) {
		case 0:
			s = at(min(s.Time+int64(r.Intn(9)), top), 255)
		case 1:
			s = at(top, uint8(r.Intn(256)))
			if above(one.Stamp, s) {
				s = one.Stamp
			}
		}
		if err := y.x.Commit(one.ID, s); err != api.OK || y.p.commit(one.ID, s) != api.OK {
			t.Fatalf("P16.2: Commit of %d, prepared at %v, at %v: %v", one.ID, one.Stamp, s, err)
		}
	}
	is(t, "P16.2: all that was prepared is committed", y.x, y.p)
}

// P16.1, P16.2: calls in any order, held against a part that keeps no order:
// of few keys, whose chains get full, and of many, so that there are too many
// keys, or too many that are prepared. At the end all can be committed.
func TestAny(t *testing.T) {
	r := rand.New(rand.NewSource(16))
	seen := map[string]int{}
	for round, keys := range []int{1, 2, 3, 3, 10, 40, 40, 60, 60, 300, 300, 2000} {
		y := newPair()
		for i := range 600 {
			what, got, want := y.step(r, keys, int64(i/2))
			if got != want {
				t.Fatalf("P16.2: round %d, step %d: %s: %v; want %v", round, i, what, got, want)
			}
			if what != "Trim" {
				seen[what+" "+strconv.Itoa(int(got))]++
			}
			if i%100 == 0 {
				is(t, "P16: any calls", y.x, y.p)
			} else if i%10 == 0 {
				told(t, "P16: any calls", y.x, y.p)
			}
		}
		is(t, "P16: any calls", y.x, y.p)
		y.allCommit(t, r)
	}
	for _, s := range []string{
		"Prepare 0", "Prepare 1", "Prepare 6", "Prepare 9", "Prepare 10", "Play 1 0", "Play 1 3", "Play 1 6", "Play 1 9", "Play 1 10",
		"Commit 0", "Commit 1", "Commit 4", "Commit 10", "Play 2 0", "Play 2 1", "Play 2 4", "Play 2 3", "Abort 0", "Abort 1", "Abort 10", "Play 3 0", "Play 3 3", "Play of another 0",
	} {
		if seen[s] == 0 {
			t.Errorf("no call was answered %s: %v", s, seen)
		}
	}
}
