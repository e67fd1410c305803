package ckpt

import (
	"bytes"
	"encoding/binary"
	"math"
	"math/rand"
	"slices"
	"strconv"
	"strings"
	"testing"

	"hourglass/api"
	"hourglass/chain"
	"hourglass/store"
)

const (
	top     = 36028797018963967 // MaxTime, in digits
	long    = 200               // MaxValue
	allKeys = 200               // MaxKeys
	deep    = 50                // MaxChain
)

func at(time int64, node uint8) api.Stamp { return api.Stamp{Time: time, Node: node} }

// k is the bytes of a text, and noughts behind it, also where that may not be
// a key.
func k(s string) api.Key {
	var x api.Key
	copy(x[:], s)
	return x
}

func kb(s string) string {
	x := k(s)
	return string(x[:])
}

func w(s, v string) api.Write { return api.Write{Key: k(s), Value: v} }

func gone(s string) api.Write { return api.Write{Key: k(s), Gone: true} }

func val(time int64, node uint8, s string) chain.Version {
	return chain.Version{Stamp: at(time, node), Value: s}
}

func goneAt(time int64, node uint8) chain.Version {
	return chain.Version{Stamp: at(time, node), Gone: true}
}

// row is a key and its versions.
type row struct {
	k api.Key
	l []chain.Version
}

func of(s string, l ...chain.Version) row { return row{k(s), l} }

func packed(s api.Stamp) uint64 { return uint64(s.Time)*256 + uint64(s.Node) }

func flag(yes bool) uint64 {
	if yes {
		return 1
	}
	return 0
}

func num(b []byte, l ...uint64) []byte {
	for _, v := range l {
		b = binary.AppendUvarint(b, v)
	}
	return b
}

// plainPut writes rows as they stand, whether they may be or not.
func plainPut(rows ...row) []byte {
	b := num(nil, uint64(len(rows)))
	for _, r := range rows {
		b = num(append(b, r.k[:]...), uint64(len(r.l)))
		for _, v := range r.l {
			b = num(b, packed(v.Stamp), flag(v.Gone), uint64(len(v.Value)))
			b = append(b, v.Value...)
		}
	}
	return b
}

// lax reads whatever is there, also numbers with noughts at their end: what it
// told is to be written again, and held against what it read.
type lax struct {
	b  []byte
	ok bool
}

func (x *lax) num() uint64 {
	v, n := binary.Uvarint(x.b)
	if n <= 0 {
		x.ok = false
		return 0
	}
	x.b = x.b[n:]
	return v
}

func (x *lax) some(n uint64) string {
	if n > uint64(len(x.b)) {
		x.ok = false
		return ""
	}
	s := string(x.b[:n])
	x.b = x.b[n:]
	return s
}

func (x *lax) version() chain.Version {
	p := x.num()
	v := chain.Version{Stamp: at(int64(p/256), uint8(p%256))}
	v.Gone = x.num() == 1
	v.Value = x.some(x.num())
	return v
}

func (x *lax) rows() []row {
	var rows []row
	for n := x.num(); x.ok && uint64(len(rows)) < n; {
		r := row{k: k(x.some(16))}
		for m := x.num(); x.ok && uint64(len(r.l)) < m; {
			r.l = append(r.l, x.version())
		}
		rows = append(rows, r)
	}
	return rows
}

// mayBe tells by hand whether a key may be.
func mayBe(x api.Key) bool {
	s := strings.TrimRight(string(x[:]), "\x00")
	return s != "" && !strings.Contains(s, "\x00")
}

// bad tells by hand whether no store has such rows in such an order.
func bad(rows []row) bool {
	no := len(rows) > allKeys
	for i, r := range rows {
		no = no || !mayBe(r.k) || len(r.l) == 0 || len(r.l) > deep
		no = no || i > 0 && string(rows[i-1].k[:]) >= string(r.k[:])
		for j, v := range r.l {
			no = no || v.Stamp.Time < 0 || v.Stamp.Time > top || len(v.Value) > long || v.Gone && v.Value != ""
			no = no || j > 0 && packed(r.l[j-1].Stamp) >= packed(v.Stamp)
		}
	}
	return no
}

// plainGet reads rows, and tells whether the bytes are just those of a store.
func plainGet(b []byte) ([]row, bool) {
	x := lax{b, true}
	rows := x.rows()
	if !x.ok || bad(rows) || !bytes.Equal(plainPut(rows...), b) {
		return nil, false
	}
	return rows, true
}

// step is a version and its key.
type step struct {
	k api.Key
	v chain.Version
}

func steps(rows []row) []step {
	var l []step
	for _, r := range rows {
		for _, v := range r.l {
			l = append(l, step{r.k, v})
		}
	}
	return l
}

// apply makes a store by an Apply a step.
func apply(t *testing.T, l []step) *store.Store {
	t.Helper()
	s := store.New()
	for _, x := range l {
		if err := s.Apply(x.v.Stamp, api.Write{Key: x.k, Value: x.v.Value, Gone: x.v.Gone}); err != api.OK {
			t.Fatalf("P12.1: Apply of %v to %q: %v", x.v, x.k, err)
		}
	}
	return s
}

func made(t *testing.T, rows ...row) *store.Store {
	t.Helper()
	return apply(t, steps(rows))
}

// holds fails, unless a store has just those rows.
func holds(t *testing.T, what string, s *store.Store, rows []row) {
	t.Helper()
	keys := s.Keys()
	if len(keys) != len(rows) {
		t.Fatalf("%s: %d keys; want %d", what, len(keys), len(rows))
	}
	for i, r := range rows {
		if keys[i] != r.k || !slices.Equal(s.Chain(r.k), r.l) {
			t.Fatalf("%s: key %d, %q: %.300v; want %q: %.300v", what, i, keys[i], s.Chain(keys[i]), r.k, r.l)
		}
	}
}

// goodRows fails, unless Put of a store with those rows is as written by hand,
// Get reads it, and Same tells that it is alike.
func goodRows(t *testing.T, rows ...row) *store.Store {
	t.Helper()
	if bad(rows) {
		t.Fatalf("by hand: no store has %.300v", rows)
	}
	s, want := made(t, rows...), plainPut(rows...)
	b := Put(s)
	if !bytes.Equal(b, want) {
		t.Fatalf("P15.1: Put of %.300v: %.300x; want %.300x", rows, b, want)
	}
	got, err := Get(b)
	if err != api.OK || got == nil {
		t.Fatalf("P15.1: Get of Put of %.300v: %v, %v", rows, got, err)
	}
	holds(t, "P15.1: Get of Put", got, rows)
	holds(t, "R3: a store that was put", s, rows)
	if !Same(s, got) || !Same(got, s) || !bytes.Equal(Put(got), want) {
		t.Fatalf("P15.1: what Get tells of %.300v is another one", rows)
	}
	return got
}

// refused fails, unless Get answers EFORM, and nil beside it.
func refused(t *testing.T, what string, b []byte) {
	t.Helper()
	if s, err := Get(b); err != api.EFORM || s != nil {
		t.Errorf("P15.1: Get of %s, %.300x: %v, %v; want EFORM", what, b, s, err)
	}
	if rows, ok := plainGet(b); ok {
		t.Fatalf("by hand: %s, %.300x: %.300v", what, b, rows)
	}
}

// asPlain fails, unless Get tells what the plain one does.
func asPlain(t *testing.T, b []byte) (taken bool) {
	t.Helper()
	s, err := Get(b)
	rows, ok := plainGet(b)
	if !ok {
		if err != api.EFORM || s != nil {
			t.Fatalf("P15.1: Get(%x): %v, %v; want EFORM", b, s, err)
		}
		return false
	}
	if err != api.OK || s == nil {
		t.Fatalf("P15.1: Get(%x): %v, %v; want %v", b, s, err, rows)
	}
	holds(t, "P15.1: Get", s, rows)
	if !bytes.Equal(Put(s), b) {
		t.Fatalf("P15.1: Put of Get of %x: %x", b, Put(s))
	}
	return true
}

// some are rows of all kinds.
func some() []row {
	return []row{
		of("a", goneAt(1, 0), val(2, 255, ""), val(3, 0, "a3")),
		of("ab", val(0, 0, "ab0")),
		of("b", val(5, 3, "b53"), goneAt(5, 4), val(5, 5, strings.Repeat("b", 130)), goneAt(top, 255)),
		of("sixteen bytes...", val(700, 7, "\x00\xff\x80"), val(1<<40, 0, "s")),
		of("\xff", goneAt(9, 9)),
	}
}

// wide are n rows of a version each.
func wide(n int) []row {
	var rows []row
	for i := range n {
		rows = append(rows, of("n"+strconv.Itoa(1000+i), val(int64(i%7), uint8(i), strconv.Itoa(i))))
	}
	return rows
}

// tall is a row of n versions, at the Times 10, 20 .. and Node 5.
func tall(s string, n int) row {
	r := of(s)
	for i := range n {
		r.l = append(r.l, val(int64(10*(i+1)), 5, strconv.Itoa(i)))
	}
	return r
}

// The limits are as the tests take them.
func TestLimits(t *testing.T) {
	if api.MaxTime != top || api.MaxValue != long || api.MaxKeys != allKeys || api.MaxChain != deep {
		t.Fatalf("limits: %d, %d, %d, %d", int64(api.MaxTime), api.MaxValue, api.MaxKeys, api.MaxChain)
	}
}

// P15.1: the chapter's example.
func TestExample(t *testing.T) {
	if b := Put(store.New()); !bytes.Equal(b, []byte{0}) {
		t.Errorf("P15.1: Put of an empty store: %v; want a byte 0", b)
	}
	s, err := Get([]byte{0})
	if err != api.OK || s == nil || len(s.Keys()) != 0 {
		t.Errorf("P15.1: Get of a byte 0: %v, %v", s, err)
	}
	goodRows(t)
}

// P15.1: Put, byte by byte.
func TestPutBytes(t *testing.T) {
	for _, c := range []struct {
		rows []row
		want string
	}{
		{[]row{of("k", val(1, 2, "x"))}, "\x01" + kb("k") + "\x01\x82\x02\x00\x01x"},
		{[]row{of("k", goneAt(1, 2))}, "\x01" + kb("k") + "\x01\x82\x02\x01\x00"},
		{[]row{of("sixteen bytes...", val(0, 0, ""))}, "\x01sixteen bytes...\x01\x00\x00\x00"},
		{[]row{of("k", val(0, 1, "\x00"), val(0, 127, "\x80"), val(0, 128, "ä"))}, "\x01" + kb("k") + "\x03\x01\x00\x01\x00\x7f\x00\x01\x80\x80\x01\x00\x02ä"},
		{
			[]row{of("a", val(1, 0, "one"), goneAt(2, 0)), of("ab", val(1, 0, "")), of("b", goneAt(0, 9), goneAt(1, 9), val(64, 0, "xyz"))},
			"\x03" + kb("a") + "\x02\x80\x02\x00\x03one\x80\x04\x01\x00" + kb("ab") + "\x01\x80\x02\x00\x00" + kb("b") + "\x03\x09\x01\x00\x89\x02\x01\x00\x80\x80\x01\x00\x03xyz",
		},
	} {
		if got := Put(made(t, c.rows...)); string(got) != c.want {
			t.Errorf("P15.1: Put of %v: %x; want %x", c.rows, got, c.want)
		}
		goodRows(t, c.rows...)
	}
	goodRows(t, some()...)
}

// P15.1: Values of all lengths, and ones that are Gone.
func TestValues(t *testing.T) {
	for _, n := range []int{0, 1, 2, 63, 64, 126, 127, 128, 129, long - 1, long} {
		for _, c := range []string{"x", "\x00", "\x80", "\xff"} {
			v := strings.Repeat(c, n)
			goodRows(t, of("k", val(3, 1, v)))
			goodRows(t, of("a", goneAt(2, 0), val(3, 1, v), goneAt(4, 0)), of("k", val(1, 1, v), val(2, 1, v)))
		}
	}
	head := "\x01" + kb("k") + "\x01\x03\x00"
	for _, c := range []struct {
		n    int
		want string
	}{{127, "\x7f"}, {128, "\x80\x01"}, {long, "\xc8\x01"}} {
		v := strings.Repeat("v", c.n)
		if b := Put(made(t, of("k", val(0, 3, v)))); string(b) != head+c.want+v {
			t.Errorf("P15.1: Put of a Value of %d bytes: %x", c.n, b)
		}
	}
}

// P15.1: the least Stamps and the greatest.
func TestStamps(t *testing.T) {
	ends := []chain.Version{val(0, 0, "a"), goneAt(0, 1), val(0, 255, "b"), val(1, 0, "c"), goneAt(top-1, 255), val(top, 0, "d"), val(top, 254, "e"), goneAt(top, 255)}
	goodRows(t, of("k", ends...))
	for i := range ends {
		goodRows(t, of("k", ends[i]))
		goodRows(t, of("a", ends[i:]...), of("b", ends[:i+1]...))
	}
	want := "\x01" + kb("k") + "\x02\x00\x00\x00\xff\xff\xff\xff\xff\xff\xff\xff\x7f\x01\x00"
	if b := Put(made(t, of("k", val(0, 0, ""), goneAt(top, 255)))); string(b) != want {
		t.Errorf("P15.1: Put of the least and the greatest Stamp: %x", b)
	}
}

// P15.1: keys that may be, at the edges.
func TestKeys(t *testing.T) {
	rows := []row{}
	for _, s := range []string{"\x01", "\x01\x01", "\x01\xff", "\x02", "a", "aa", "aaaaaaaaaaaaaaaa", "ab", "b", "\x7f", "\x80", "\xff", "\xff\x01", strings.Repeat("\xff", 15), strings.Repeat("\xff", 16)} {
		goodRows(t, of(s, val(1, 0, s)))
		rows = append(rows, of(s, val(1, 0, s)))
	}
	goodRows(t, rows...)
}

// P15.1: as many keys as may be, as many versions, and both.
func TestFull(t *testing.T) {
	for _, n := range []int{1, 2, 127, 128, allKeys - 1, allKeys} {
		goodRows(t, wide(n)...)
	}
	for n := 1; n <= deep; n++ {
		goodRows(t, tall("k", n))
		goodRows(t, of("a", goneAt(3, 0)), tall("k", n), tall("l", n))
	}
	all := wide(allKeys)
	for i := range all {
		all[i].l = nil
		for j := range deep {
			all[i].l = append(all[i].l, val(int64(j), uint8(i), strings.Repeat(strconv.Itoa(j%10), long)))
		}
	}
	goodRows(t, all...)
	all[allKeys-1].l[deep-1] = goneAt(top, 255)
	goodRows(t, all...)
}

// P15.1, R5: however a store was made, the same bytes.
func TestPutHowMade(t *testing.T) {
	rows := append(some(), tall("tall", deep))
	slices.SortFunc(rows, func(a, b row) int { return bytes.Compare(a.k[:], b.k[:]) })
	want := plainPut(rows...)
	r := rand.New(rand.NewSource(15))
	for range 50 {
		l := steps(rows)
		r.Shuffle(len(l), func(i, j int) { l[i], l[j] = l[j], l[i] })
		s := apply(t, l)
		for range 3 {
			if b := Put(s); !bytes.Equal(b, want) {
				t.Fatalf("P15.1: Put of one made in another order: %x; want %x", b, want)
			}
		}
		if b := Put(s.Copy()); !bytes.Equal(b, want) || !Same(s, s.Copy()) {
			t.Fatalf("P15.1: Put of a copy: %x; want %x", b, want)
		}
	}
	s := store.New()
	s.Apply(at(7, 1), w("b", "b7"), gone("a"), w("c", ""))
	s.Apply(at(5, 1), w("c", "c5"), w("b", "b5"))
	other := made(t, of("a", goneAt(7, 1)), of("b", val(5, 1, "b5"), val(7, 1, "b7")), of("c", val(5, 1, "c5"), val(7, 1, "")))
	if !bytes.Equal(Put(s), Put(other)) || !Same(s, other) {
		t.Errorf("P15.1: Put of one of several writes at once: %x; want %x", Put(s), Put(other))
	}
}

// P15.1: a store that was trimmed is as one that never had what went.
func TestPutTrimmed(t *testing.T) {
	for _, c := range []struct {
		at   api.Stamp
		left []row
	}{
		{at(0, 0), some()},
		{at(3, 0), []row{of("a", val(3, 0, "a3")), some()[1], some()[2], some()[3], some()[4]}},
		{at(5, 4), []row{of("a", val(3, 0, "a3")), some()[1], of("b", some()[2].l[2:]...), some()[3], some()[4]}},
		{at(1000, 0), []row{of("a", val(3, 0, "a3")), some()[1], of("b", some()[2].l[2:]...), some()[3]}},
		{at(top, 255), []row{of("a", val(3, 0, "a3")), some()[1], of("sixteen bytes...", val(1<<40, 0, "s"))}},
	} {
		s := made(t, some()...)
		s.Trim(c.at)
		goodRows(t, c.left...)
		if b := Put(s); !bytes.Equal(b, plainPut(c.left...)) || !Same(s, made(t, c.left...)) {
			t.Errorf("P15.1: Put of one trimmed at %v: %x; want %x", c.at, b, plainPut(c.left...))
		}
	}
	s := made(t, of("a", goneAt(1, 0)), of("b", val(1, 0, ""), goneAt(2, 0)))
	if n := s.Trim(at(2, 0)); n != 3 || string(Put(s)) != "\x00" || !Same(s, store.New()) {
		t.Errorf("P15.1: Put of one of which all went: %x", Put(s))
	}
}

// stampsOf are the stamps of rows, those just around, and the ends.
func stampsOf(rows []row) []api.Stamp {
	l := []api.Stamp{at(math.MinInt64, 0), at(-1, 255), at(0, 0), at(top, 255), at(math.MaxInt64, 255)}
	for _, x := range steps(rows) {
		s := x.v.Stamp
		l = append(l, s, at(s.Time, s.Node-1), at(s.Time, s.Node+1), at(s.Time-1, 255), at(s.Time+1, 0))
	}
	return l
}

// tellAlike fails, unless two stores tell the same by all calls that tell.
func tellAlike(t *testing.T, what string, a, b *store.Store, when []api.Stamp) {
	t.Helper()
	keys := a.Keys()
	if !slices.Equal(keys, b.Keys()) {
		t.Fatalf("%s: Keys: %q, %q", what, keys, b.Keys())
	}
	keys = append(keys, api.Key{}, k("absent"), k("\x00a"), k(strings.Repeat("\xff", 16)))
	for _, x := range keys {
		n, ok := a.Newest(x)
		if m, also := b.Newest(x); m != n || also != ok || !slices.Equal(a.Chain(x), b.Chain(x)) {
			t.Fatalf("%s: key %q: %v, %v, %v; %v, %v, %v", what, x, n, ok, a.Chain(x), m, also, b.Chain(x))
		}
	}
	for i, s := range when {
		for _, x := range keys {
			v, ok := a.Get(x, s)
			if u, also := b.Get(x, s); u != v || also != ok {
				t.Fatalf("%s: Get(%q, %v): %q, %v; %q, %v", what, x, s, v, ok, u, also)
			}
		}
		from, to := keys[i%len(keys)], keys[i*7%len(keys)]
		for _, most := range []int{-1, 0, 1, 3, math.MaxInt} {
			if !slices.Equal(a.Scan(from, to, s, most), b.Scan(from, to, s, most)) || !slices.Equal(a.Scan(api.Key{}, api.Key{}, s, most), b.Scan(api.Key{}, api.Key{}, s, most)) {
				t.Fatalf("%s: Scan(%q, %q, %v, %d)", what, from, to, s, most)
			}
		}
	}
}

// P15.1: what Get answers tells what the first one tells.
func TestGetTells(t *testing.T) {
	for _, rows := range [][]row{{}, some(), {tall("k", deep)}, wide(30)} {
		tellAlike(t, "P15.1: Get of Put", made(t, rows...), goodRows(t, rows...), stampsOf(rows))
	}
	rows := wide(allKeys)
	tellAlike(t, "P15.1: Get of Put", made(t, rows...), goodRows(t, rows...), stampsOf(rows[:9]))
}

// both is a store, and what Get told of its Put.
type both struct{ first, read *store.Store }

// does fails, unless Apply answers so on both, and they are alike then.
func (x both) does(t *testing.T, want api.Errno, when api.Stamp, l ...api.Write) {
	t.Helper()
	a, b := x.first.Apply(when, l...), x.read.Apply(when, l...)
	if a != want || b != want {
		t.Fatalf("P15.1: Apply(%v, %.200v): %v, of what was read %v; want %v", when, l, a, b, want)
	}
	x.alike(t)
}

func (x both) trims(t *testing.T, want int, when api.Stamp) {
	t.Helper()
	a, b := x.first.Trim(when), x.read.Trim(when)
	if a != want || b != want {
		t.Fatalf("P15.1: Trim(%v): %d, of what was read %d; want %d", when, a, b, want)
	}
	x.alike(t)
}

func (x both) alike(t *testing.T) {
	t.Helper()
	if !bytes.Equal(Put(x.first), Put(x.read)) || !Same(x.first, x.read) {
		t.Fatalf("P15.1: Put of both: %x, %x", Put(x.first), Put(x.read))
	}
	tellAlike(t, "P15.1: both", x.first, x.read, []api.Stamp{at(0, 0), at(5, 3), at(99, 0), at(top, 255)})
}

// P15.1: what Get answers goes on as the first one does.
func TestGetGoesOn(t *testing.T) {
	x := both{made(t, some()...), goodRows(t, some()...)}
	for _, r := range some() {
		for _, v := range r.l {
			x.does(t, api.EEXIST, v.Stamp, api.Write{Key: r.k, Value: "new"})
			x.does(t, api.EEXIST, v.Stamp, w("fresh", "new"), api.Write{Key: r.k, Gone: true})
		}
	}
	x.does(t, api.EARG, at(8, 0))
	x.does(t, api.EARG, at(-1, 0), w("b", "x"))
	x.does(t, api.EARG, at(8, 0), w("", "x"))
	x.does(t, api.OK, at(8, 0), w("b", "late"), gone("a"), w("fresh", ""))
	x.does(t, api.OK, at(4, 0), w("b", "early"))
	x.trims(t, 5, at(5, 4))
	x.does(t, api.OK, at(2, 255), w("a", "again"))
	x.trims(t, 5, at(1000, 0))
	x.trims(t, 3, at(top, 255))
	x.does(t, api.OK, at(5, 3), gone("b"), w("\xff", "back"))

	x = both{store.New(), goodRows(t)}
	x.trims(t, 0, at(9, 0))
	x.does(t, api.OK, at(0, 0), w("a", ""))
}

// P15.1: what is full is full in what Get answers, till there is room.
func TestGetGoesOnFull(t *testing.T) {
	x := both{made(t, tall("k", deep)), goodRows(t, tall("k", deep))}
	x.does(t, api.EFULL, at(11, 0), w("k", ""))
	x.does(t, api.EFULL, at(9999, 0), w("l", "x"), gone("k"))
	x.does(t, api.EEXIST, at(20, 5), w("k", ""))
	x.trims(t, 1, at(20, 5))
	x.does(t, api.OK, at(11, 0), w("k", ""))
	x.does(t, api.EFULL, at(12, 0), w("k", ""))

	rows := wide(allKeys)
	rows[3].l = []chain.Version{goneAt(3, 0)}
	x = both{made(t, rows...), goodRows(t, rows...)}
	x.does(t, api.EFULL, at(99, 0), w("new", ""))
	x.does(t, api.OK, at(99, 0), w("n1000", "again"), gone("n1199"))
	x.trims(t, 1, at(3, 0))
	x.does(t, api.OK, at(98, 0), w("new", ""))
	x.does(t, api.EFULL, at(98, 0), w("newer", ""))
}

// P15.1, R4: what is done to the one changes nothing that the other tells.
func TestGetApart(t *testing.T) {
	first := made(t, some()...)
	b := Put(first)
	read, _ := Get(b)
	third, _ := Get(b)
	all := []*store.Store{first, read, third, first.Copy()}
	for i, one := range all {
		var was [][]byte
		for _, other := range all {
			was = append(was, Put(other))
		}
		one.Apply(at(100, uint8(i)), w("b", "x"), gone("a"), w("new"+strconv.Itoa(i), ""))
		one.Trim(at(5, uint8(3+i)))
		for j, other := range all {
			if bytes.Equal(Put(other), was[j]) != (i != j) || Same(one, other) != (i == j) {
				t.Errorf("R4: store %d was told more; of store %d: %x; was %x", i, j, Put(other), was[j])
			}
			if j > i {
				holds(t, "R4: what another one was told", other, some())
			}
		}
	}
	if !bytes.Equal(b, plainPut(some()...)) {
		t.Errorf("R4: the bytes changed with the stores: %x", b)
	}
}

// P15.1: what Put wrote with less at its end, and with more behind.
func TestGetShorterAndLonger(t *testing.T) {
	for _, rows := range [][]row{{}, {of("k", val(1, 2, "x"))}, {of("k", goneAt(top, 255))}, some(), wide(9), {tall("k", 20)}} {
		b := plainPut(rows...)
		for n := range b {
			refused(t, "a beginning", b[:n:n])
			refused(t, "a beginning, with the end as spare room", b[:n])
		}
		for c := range 256 {
			refused(t, "a byte more", append(bytes.Clone(b), byte(c)))
		}
		refused(t, "twice that", append(bytes.Clone(b), b...))
		refused(t, "a byte ahead", append([]byte{0}, b...))
	}
	refused(t, "no byte", nil)
	refused(t, "an empty list", []byte{})
}

// P15.1: what Put wrote with one byte turned into each other one: EFORM, but
// where it is Put of another store.
func TestGetTurned(t *testing.T) {
	for _, rows := range [][]row{{}, {of("k", val(1, 2, "x"))}, {of("k", goneAt(1, 2))}, some(), wide(4), {tall("k", 9)}} {
		b := plainPut(rows...)
		taken, not := 0, 0
		for i := range b {
			for c := range 255 {
				x := bytes.Clone(b)
				x[i] += byte(c + 1)
				if asPlain(t, x) {
					taken++
				} else {
					not++
				}
			}
		}
		if len(rows) > 0 && taken < 200 || not < 255 {
			t.Errorf("of %x: %d were taken, %d were not", b, taken, not)
		}
	}
}

// P15.1: numbers that have more bytes than they need, or no end.
func TestGetNumbers(t *testing.T) {
	good := []string{"\x01", "\x02", "\x01", "\x00", "\x01", "\x03", "\x01", "\x00"}
	lay := func(l []string) []byte {
		return []byte(l[0] + kb("k") + l[1] + l[2] + l[3] + l[4] + "v" + l[5] + l[6] + l[7])
	}
	if s, err := Get(lay(good)); err != api.OK || !Same(s, made(t, of("k", val(0, 1, "v"), goneAt(0, 3)))) {
		t.Fatalf("P15.1: Get of %x: %v", lay(good), err)
	}
	for i, one := range good {
		low := one[0]
		for _, wrong := range []string{
			string([]byte{low | 128, 0}), string([]byte{low | 128, 128, 0}), string([]byte{low | 128}) + strings.Repeat("\x80", 8) + "\x00",
			string([]byte{low | 128}) + strings.Repeat("\x80", 8) + "\x02", string([]byte{low | 128}) + strings.Repeat("\x80", 9) + "\x01", strings.Repeat("\xff", 9) + "\x03", strings.Repeat("\xff", 300), "",
		} {
			l := slices.Clone(good)
			l[i] = wrong
			refused(t, "a number of more bytes", lay(l))
		}
	}
	for _, rows := range [][]row{wide(1), {of("k", val(1, 2, "x"))}} {
		refused(t, "a count of more bytes", append([]byte{0x81, 0}, plainPut(rows...)[1:]...))
	}
	refused(t, "none in two bytes", []byte{0x80, 0})
}

// greats are numbers above all limits, also those that an int, or half of one,
// holds as less.
func greats() []uint64 {
	return []uint64{1000, 1 << 14, 1<<31 - 1, 1 << 31, 1<<32 - 1, 1 << 32, 1<<32 + 1, 1<<32 + 2, 1<<63 - 1, 1 << 63, 1<<63 + 1, 1<<63 + 2, math.MaxUint64 - 1, math.MaxUint64}
}

// P15.1: more keys than may be, with all of them behind, and with few bytes.
func TestGetTooManyKeys(t *testing.T) {
	for _, n := range []int{allKeys + 1, allKeys + 2, 255, 256, 257, 400} {
		refused(t, "too many keys", plainPut(wide(n)...))
		few := num(nil, uint64(n))
		refused(t, "too many keys, and none", few)
		refused(t, "too many keys, and one", append(few, plainPut(wide(1)...)[1:]...))
	}
	for _, n := range greats() {
		for _, m := range []int{0, 1, 2, allKeys} {
			refused(t, "too many keys", append(num(nil, n), plainPut(wide(m)...)[countLen(m):]...))
		}
	}
	refused(t, "fewer keys than there are", append([]byte{1}, plainPut(wide(2)...)[1:]...))
	refused(t, "no key, but one", append([]byte{0}, plainPut(wide(1)...)[1:]...))
	refused(t, "more keys than there are", append([]byte{3}, plainPut(wide(2)...)[1:]...))
}

// countLen tells how many bytes a count has.
func countLen(n int) int { return len(num(nil, uint64(n))) }

// P15.1: more versions than may be, with all of them behind, and with few
// bytes; and none.
func TestGetTooManyVersions(t *testing.T) {
	head := "\x01" + kb("k")
	for _, n := range []int{deep + 1, deep + 2, 100, 127, 128, 256, 257, 300} {
		refused(t, "too many versions", plainPut(tall("k", n)))
		refused(t, "too many versions", plainPut(of("a", val(1, 0, "x")), tall("k", n), of("l", val(1, 0, "x"))))
		refused(t, "too many versions, and none", num([]byte(head), uint64(n)))
		refused(t, "too many versions, and one", append(num([]byte(head), uint64(n)), "\x01\x00\x00"...))
	}
	for _, n := range greats() {
		for _, m := range []int{0, 1, 2, deep} {
			refused(t, "too many versions", append(num([]byte(head), n), plainPut(tall("k", m))[18:]...))
		}
	}
	refused(t, "no version", plainPut(of("k")))
	refused(t, "no version of the first", plainPut(of("k"), of("l", val(1, 0, "x"))))
	refused(t, "no version of the last", plainPut(of("k", val(1, 0, "x")), of("l")))
	refused(t, "no version, but one", []byte(head+"\x00\x01\x00\x00"))
	refused(t, "fewer versions than there are", []byte(head+"\x01\x01\x00\x00\x02\x00\x00"))
	refused(t, "more versions than there are", []byte(head+"\x03\x01\x00\x00\x02\x00\x00"))
}

// P15.1: keys that may not be, that fall, or stand twice.
func TestGetWrongKeys(t *testing.T) {
	one := val(1, 0, "x")
	for _, s := range []string{"", "\x00a", "a\x00b", strings.Repeat("\x00", 15) + "b", "fourteen bytes\x00b", "\x00" + strings.Repeat("\xff", 15)} {
		refused(t, "a key that may not be", plainPut(of(s, one)))
		refused(t, "a key that may not be, behind one", plainPut(of("\x01", one), of(s, one)))
		refused(t, "a key that may not be, ahead of one", plainPut(of(s, one), of("b", one)))
		refused(t, "two that may not be", plainPut(of(s, one), of(s, one)))
	}
	for _, l := range [][]string{
		{"a", "a"}, {"b", "a"}, {"ab", "a"}, {"b", "ab"}, {"\xff", "a"}, {"\x80", "\x7f"}, {"sixteen bytes...", "sixteen bytes.."}, {"sixteen bytes..b", "sixteen bytes..a"}, {"sixteen bytes..a", "sixteen bytes..a"},
		{"a", "b", "b"}, {"a", "c", "b"}, {"a", "b", "a"}, {"b", "a", "c"}, {"a", "a", "b"}, {"c", "b", "a"}, {"a", "b", "c", "a"}, {"a", "b", "c", "c"},
	} {
		var rows, unlike []row
		for i, s := range l {
			rows, unlike = append(rows, of(s, one)), append(unlike, of(s, val(int64(i), 0, s)))
		}
		refused(t, "keys that do not rise", plainPut(rows...))
		refused(t, "keys that do not rise, of unlike versions", plainPut(unlike...))
	}
	rows := wide(allKeys)
	rows[allKeys-1].k = rows[allKeys-2].k
	refused(t, "the last of many keys, twice", plainPut(rows...))
	rows[allKeys-1].k = k("a")
	refused(t, "the last of many keys falls", plainPut(rows...))
}

// P15.1: Stamps that may not be, that fall, or stand twice in one chain.
func TestGetWrongStamps(t *testing.T) {
	head := "\x01" + kb("k")
	for _, v := range []uint64{1 << 63, 1<<63 + 1, 1<<63 + 1<<8, 1<<63 + 1<<62, math.MaxUint64 - 1, math.MaxUint64} {
		refused(t, "a stamp that may not be", append(num([]byte(head+"\x01"), v), "\x00\x00"...))
		refused(t, "a stamp that may not be, behind one", append(num([]byte(head+"\x02\x05\x00\x00"), v), "\x00\x00"...))
		refused(t, "a stamp that may not be, ahead of one", append(num([]byte(head+"\x02"), v), "\x00\x00\x05\x00\x00"...))
	}
	for _, l := range [][]api.Stamp{
		{at(1, 0), at(1, 0)}, {at(0, 0), at(0, 0)}, {at(top, 255), at(top, 255)}, {at(2, 0), at(1, 0)}, {at(1, 1), at(1, 0)}, {at(1, 255), at(1, 254)}, {at(2, 0), at(1, 255)}, {at(1, 0), at(0, 255)}, {at(1, 0), at(0, 0)}, {at(top, 0), at(0, 0)},
		{at(1, 0), at(3, 0), at(2, 0)}, {at(1, 0), at(2, 0), at(2, 0)}, {at(1, 0), at(2, 0), at(1, 0)}, {at(2, 0), at(1, 0), at(3, 0)}, {at(1, 0), at(1, 0), at(2, 0)}, {at(3, 0), at(2, 0), at(1, 0)}, {at(0, 1), at(0, 2), at(0, 0)},
	} {
		var r, goneToo row
		for i, s := range l {
			r.l = append(r.l, chain.Version{Stamp: s, Value: strconv.Itoa(i)})
			goneToo.l = append(goneToo.l, chain.Version{Stamp: s, Gone: i > 0})
		}
		r.k, goneToo.k = k("k"), k("k")
		refused(t, "stamps that do not rise", plainPut(r))
		refused(t, "stamps that do not rise, of some that are gone", plainPut(goneToo))
		refused(t, "stamps that do not rise, in the last chain", plainPut(of("a", val(1, 0, "x")), r))
	}
	r := tall("k", deep)
	r.l[deep-1].Stamp = r.l[deep-2].Stamp
	refused(t, "the last of many stamps, twice", plainPut(r))
	r.l[deep-1].Stamp = at(0, 0)
	refused(t, "the last of many stamps falls", plainPut(r))
	// In another chain a Stamp may stand again, or be below.
	goodRows(t, of("a", val(5, 5, "x")), of("b", val(5, 5, "x")), of("c", val(0, 0, "x")))
}

// P15.1: what Gone may not be, and Values that may not be.
func TestGetWrongValues(t *testing.T) {
	head := "\x01" + kb("k") + "\x01\x05"
	for _, n := range append([]uint64{2, 3, 127, 128, 129, 256, 257}, greats()...) {
		b := num([]byte(head), n)
		refused(t, "a Gone of neither 0 nor 1", append(b, 0))
		refused(t, "a Gone of neither 0 nor 1, and a Value", append(b, "\x01x"...))
	}
	for _, n := range []int{long + 1, long + 2, 255, 256, 257, 1 << 14} {
		v := strings.Repeat("x", n)
		refused(t, "a Value that is too long", plainPut(of("k", val(5, 0, v))))
		refused(t, "a Value that is too long, behind others", plainPut(of("a", val(5, 0, "x")), of("k", val(5, 0, "x"), val(6, 0, v), val(7, 0, "x"))))
	}
	for _, n := range []int{1, 2, 128, long, long + 1} {
		v := goneAt(5, 0)
		v.Value = strings.Repeat("x", n)
		refused(t, "a Value of one that is gone", plainPut(of("k", v)))
		refused(t, "a Value of one that is gone, behind others", plainPut(of("a", val(5, 0, "x")), of("k", val(4, 0, "x"), v, val(7, 0, "x"))))
	}
	for _, n := range append([]uint64{4, 5, 128, long, long + 1}, greats()...) {
		refused(t, "a length that is past the end", append(num([]byte(head+"\x00"), n), "abc"...))
		refused(t, "a length that is past the end, of one that is gone", append(num([]byte(head+"\x01"), n), "abc"...))
		refused(t, "a length and no more", num([]byte(head+"\x00"), n))
	}
	if s, err := Get([]byte(head + "\x00\x03abc")); err != api.OK || !Same(s, made(t, of("k", val(0, 5, "abc")))) {
		t.Errorf("P15.1: a length up to the end: %v", err)
	}
}

// P15.1: Same of those that are alike.
func TestSame(t *testing.T) {
	for _, rows := range [][]row{{}, some(), wide(allKeys), {tall("k", deep)}, {of("k", val(0, 0, ""))}} {
		s := made(t, rows...)
		read, _ := Get(Put(s))
		backward := steps(rows)
		slices.Reverse(backward)
		for i, other := range []*store.Store{s, s.Copy(), read, made(t, rows...), apply(t, backward)} {
			if !Same(s, other) || !Same(other, s) {
				t.Errorf("P15.1: Same of like ones of %d keys, number %d: false", len(rows), i)
			}
		}
		holds(t, "R3: Same", s, rows)
	}
	// What was refused leaves nothing.
	s := made(t, some()...)
	s.Apply(at(5, 3), w("b", "x"), w("zz", "x"))
	s.Apply(at(-1, 0), w("zz", "x"))
	if !Same(s, made(t, some()...)) {
		t.Errorf("P15.1: Same of one that refused: false")
	}
}

// P15.1: Same of two that are unlike in one thing alone.
func TestSameUnlike(t *testing.T) {
	base := func() []row { return []row{of("a", val(1, 1, "x"), val(2, 2, "")), of("b", goneAt(3, 3))} }
	for what, rows := range map[string][]row{
		"nothing":                 {},
		"a key less, the first":   base()[1:],
		"a key less, the last":    base()[:1],
		"a key more":              append(base(), of("c", val(1, 1, "x"))),
		"a key more, ahead":       append([]row{of("\x01", val(1, 1, "x"))}, base()...),
		"another key":             {base()[0], of("c", goneAt(3, 3))},
		"another first key":       {of("aa", base()[0].l...), base()[1]},
		"a version more":          {base()[0], of("b", goneAt(3, 3), goneAt(4, 3))},
		"a version more, ahead":   {base()[0], of("b", val(2, 2, ""), goneAt(3, 3))},
		"a version more, between": {of("a", val(1, 1, "x"), val(2, 1, ""), val(2, 2, "")), base()[1]},
		"a version less":          {of("a", val(2, 2, "")), base()[1]},
		"the newest less":         {of("a", val(1, 1, "x")), base()[1]},
		"a Time":                  {of("a", val(1, 1, "x"), val(3, 2, "")), base()[1]},
		"a first Time":            {of("a", val(0, 1, "x"), val(2, 2, "")), base()[1]},
		"a Node":                  {of("a", val(1, 1, "x"), val(2, 3, "")), base()[1]},
		"a first Node":            {of("a", val(1, 0, "x"), val(2, 2, "")), base()[1]},
		"a Node of the last key":  {base()[0], of("b", goneAt(3, 0))},
		"a Value":                 {of("a", val(1, 1, "y"), val(2, 2, "")), base()[1]},
		"a Value's length":        {of("a", val(1, 1, "xx"), val(2, 2, "")), base()[1]},
		"no Value":                {of("a", val(1, 1, ""), val(2, 2, "")), base()[1]},
		"a Value more":            {of("a", val(1, 1, "x"), val(2, 2, "\x00")), base()[1]},
		"Gone":                    {of("a", val(1, 1, "x"), goneAt(2, 2)), base()[1]},
		"not Gone":                {base()[0], of("b", val(3, 3, ""))},
		"the keys' versions":      {of("a", base()[1].l...), of("b", base()[0].l...)},
	} {
		a, b := made(t, base()...), made(t, rows...)
		if Same(a, b) || Same(b, a) {
			t.Errorf("P15.1: Same of two that are unlike in %s: true", what)
		}
		if bytes.Equal(Put(a), Put(b)) {
			t.Errorf("P15.1: Put of two that are unlike in %s: %x", what, Put(a))
		}
		goodRows(t, rows...)
	}
	// One that is unlike where many are alike.
	for _, place := range []int{0, allKeys / 2, allKeys - 1} {
		rows := wide(allKeys)
		rows[place].l[0].Value += "."
		if Same(made(t, wide(allKeys)...), made(t, rows...)) {
			t.Errorf("P15.1: Same of two that are unlike at key %d: true", place)
		}
	}
	for _, place := range []int{0, deep / 2, deep - 1} {
		r := tall("k", deep)
		r.l[place].Stamp.Node++
		if Same(made(t, tall("k", deep)), made(t, r)) {
			t.Errorf("P15.1: Same of two that are unlike at version %d: true", place)
		}
	}
}

// R3, R4: what is handed in is as it was, and is not kept.
func TestArgumentsStay(t *testing.T) {
	first, other := made(t, some()...), made(t, wide(9)...)
	for range 3 {
		Put(first)
		Same(first, other)
		Same(other, first)
	}
	holds(t, "R3: Put and Same", first, some())
	holds(t, "R3: Put and Same", other, wide(9))

	b := plainPut(some()...)
	room := append(bytes.Clone(b), "spare"...)
	was := bytes.Clone(room)
	s, err := Get(room[:len(b)])
	if err != api.OK || !bytes.Equal(room, was) {
		t.Fatalf("R4: Get changed its bytes: %v, %x", err, room)
	}
	for i := range room {
		room[i] = 'o'
	}
	holds(t, "R4: bytes that were written into", s, some())
	wrong := append(bytes.Clone(b), 0)
	was = bytes.Clone(wrong)
	if _, err := Get(wrong); err != api.EFORM || !bytes.Equal(wrong, was) {
		t.Errorf("R4: Get changed bytes that it refused: %v, %x", err, wrong)
	}
}

// R4: what Put answers is new memory, spare room too.
func TestPutIsNew(t *testing.T) {
	for _, rows := range [][]row{{}, some()} {
		s := made(t, rows...)
		one, two := Put(s), Put(s)
		for i := range one[:cap(one)] {
			one[:cap(one)][i] = 'o'
		}
		if want := plainPut(rows...); !bytes.Equal(two, want) || !bytes.Equal(Put(s), want) {
			t.Errorf("R4: an answer of Put was changed: %x, %x", two, Put(s))
		}
		holds(t, "R4: an answer of Put that was written into", s, rows)
		_ = append(two, "more"...)
		s.Apply(at(4, 4), w("more", "x"))
		if !bytes.Equal(two, plainPut(rows...)) {
			t.Errorf("R4: an answer of Put changed with its store: %x", two)
		}
	}
}

// anyRows draws rows of few keys and stamps.
func anyRows(r *rand.Rand) []row {
	var rows []row
	for i := range 8 {
		if r.Intn(3) > 0 {
			continue
		}
		x := of("k" + strconv.Itoa(i))
		for n := range uint64(12) {
			if r.Intn(4) > 0 && (len(x.l) > 0 || n < 11) {
				continue
			}
			v := val(int64(n/3), uint8(n%3), strings.Repeat(strconv.Itoa(int(n)), r.Intn(3)))
			if r.Intn(3) == 0 {
				v.Value, v.Gone = "", true
			}
			x.l = append(x.l, v)
		}
		rows = append(rows, x)
	}
	return rows
}

// spoil does one thing to rows, which seldom may be then.
func spoil(r *rand.Rand, rows []row) {
	if len(rows) == 0 {
		return
	}
	i, j := r.Intn(len(rows)), r.Intn(len(rows))
	x := &rows[i]
	n, m := r.Intn(len(x.l)), r.Intn(len(x.l))
	switch r.Intn(8) {
	case 0:
		rows[i], rows[j] = rows[j], rows[i]
	case 1:
		x.k = rows[j].k
	case 2:
		x.l[n], x.l[m] = x.l[m], x.l[n]
	case 3:
		x.l[n].Stamp = x.l[m].Stamp
	case 4:
		x.l[n].Gone = true
	case 5:
		x.l = x.l[:n]
	case 6:
		x.k[r.Intn(16)] = byte(r.Intn(2))
	case 7:
		x.l[n].Value = strings.Repeat("x", long-1+r.Intn(4))
	}
}

// spoilBytes does one thing to bytes.
func spoilBytes(r *rand.Rand, b []byte) []byte {
	i, j := r.Intn(len(b)), r.Intn(len(b))
	switch r.Intn(5) {
	case 0:
		b[i] ^= 1 << r.Intn(8)
	case 1:
		return slices.Insert(b, i, byte(r.Intn(4)))
	case 2:
		return slices.Delete(b, i, i+1)
	case 3:
		b[i] = b[j]
	case 4:
		return append(b[:i:i], b[j:]...)
	}
	return b
}

// P15.1: any rows, also spoilt ones, held against a plain writer and reader.
func TestAny(t *testing.T) {
	r := rand.New(rand.NewSource(1))
	last, lastRows := store.New(), []row(nil)
	taken, not := 0, 0
	for range 20000 {
		rows := anyRows(r)
		s := made(t, rows...)
		goodRows(t, rows...)
		if same := bytes.Equal(plainPut(rows...), plainPut(lastRows...)); Same(s, last) != same || Same(last, s) != same {
			t.Fatalf("P15.1: Same of %v, %v; want %v", rows, lastRows, same)
		}
		last, lastRows = s, slices.Clone(rows)
		for i := range lastRows {
			lastRows[i].l = slices.Clone(rows[i].l)
		}
		if r.Intn(2) == 0 {
			spoil(r, rows)
		}
		b := plainPut(rows...)
		for range r.Intn(3) {
			if len(b) > 0 {
				b = spoilBytes(r, b)
			}
		}
		if asPlain(t, b) {
			taken++
		} else {
			not++
		}
	}
	if taken < 3000 || not < 3000 {
		t.Errorf("%d were taken, %d were not", taken, not)
	}
}
