package rec

import (
	"bytes"
	"encoding/binary"
	"math"
	"math/rand"
	"slices"
	"strconv"
	"strings"
	"testing"

	"hourglass/api"
	"hourglass/prep"
	"hourglass/store"
)

const (
	top   = 36028797018963967 // MaxTime, in digits
	long  = 200               // MaxValue
	most  = 16                // MaxWrites
	nodes = 8                 // MaxNodes
)

func at(time int64, node uint8) api.Stamp { return api.Stamp{Time: time, Node: node} }

// k is the bytes of a text, and noughts behind it, also where that may not be
// a key.
func k(s string) api.Key {
	var x api.Key
	copy(x[:], s)
	return x
}

func w(s, v string) api.Write { return api.Write{Key: k(s), Value: v} }

func gone(s string) api.Write { return api.Write{Key: k(s), Gone: true} }

// many is n writes to unlike keys, each third Gone, the others with Values of
// that many bytes.
func many(n, size int) []api.Write {
	var l []api.Write
	for i := range n {
		l = append(l, w("m"+strconv.Itoa(i), strings.Repeat(strconv.Itoa(i%10), size)))
		if i%3 == 2 {
			l[i].Value, l[i].Gone = "", true
		}
	}
	return l
}

// with is n writes, one of them handed in, at a place.
func with(n, place int, one api.Write) []api.Write {
	l := many(n, 1)
	l[place] = one
	return l
}

// places are the first, a middle and the last of n.
func places(n int) []int { return slices.Compact([]int{0, n / 2, n - 1}) }

// upTo are the nodes below n.
func upTo(n int) []int {
	var l []int
	for i := range n {
		l = append(l, i)
	}
	return l
}

// of is a record of a Kind, with all that it has.
func of(kind int) Record {
	switch kind {
	case 1:
		return Record{Kind: 1, ID: 7, Snap: at(4, 1), Stamp: at(5, 2), Writes: []api.Write{w("b", "val"), gone("a"), w("c", "")}}
	case 2:
		return Record{Kind: 2, ID: 7, Stamp: at(5, 2)}
	case 3:
		return Record{Kind: 3, ID: 7}
	case 4:
		return Record{Kind: 4, ID: 7, Stamp: at(5, 2), Yes: true, Parts: []int{0, 3, 7}}
	case 5:
		return Record{Kind: 5, Stamp: at(5, 0)}
	}
	return Record{Kind: kind}
}

func no(parts ...int) Record { return Record{Kind: 4, ID: 7, Parts: parts} }

// mayBe tells by hand whether a key may be.
func mayBe(x api.Key) bool {
	s := strings.TrimRight(string(x[:]), "\x00")
	return s != "" && !strings.Contains(s, "\x00")
}

func badTime(s api.Stamp) bool { return s.Time < 0 || s.Time > top }

func above(a, b api.Stamp) bool {
	return a.Time > b.Time || a.Time == b.Time && a.Node > b.Node
}

// badWrites tells by hand whether Apply takes no such writes.
func badWrites(l []api.Write) bool {
	bad := len(l) < 1 || len(l) > most
	for i, a := range l {
		bad = bad || !mayBe(a.Key) || len(a.Value) > long || a.Gone && len(a.Value) > 0
		for _, b := range l[:i] {
			bad = bad || a.Key == b.Key
		}
	}
	return bad
}

func badParts(l []int) bool {
	bad := len(l) == 0
	for i, p := range l {
		bad = bad || p < 0 || p > nodes-1 || i > 0 && l[i-1] >= p
	}
	return bad
}

// bad tells by hand, Kind by Kind and field by field, whether one may not be.
func bad(r Record) bool {
	noSnap, noStamp := r.Snap == at(0, 0), r.Stamp == at(0, 0)
	noWrites, noParts := len(r.Writes) == 0, len(r.Parts) == 0
	switch r.Kind {
	case 1:
		return r.ID < 1 || badTime(r.Snap) || badTime(r.Stamp) || !above(r.Stamp, r.Snap) || badWrites(r.Writes) || r.Yes || !noParts
	case 2:
		return r.ID < 1 || !noSnap || badTime(r.Stamp) || !noWrites || r.Yes || !noParts
	case 3:
		return r.ID < 1 || !noSnap || !noStamp || !noWrites || r.Yes || !noParts
	case 4:
		return r.ID < 1 || !noSnap || badTime(r.Stamp) || !noWrites || badParts(r.Parts) || !r.Yes && !noStamp
	case 5:
		return r.ID != 0 || !noSnap || badTime(r.Stamp) || r.Stamp.Node != 0 || !noWrites || r.Yes || !noParts
	}
	return true
}

func num(b []byte, l ...uint64) []byte {
	for _, v := range l {
		b = binary.AppendUvarint(b, v)
	}
	return b
}

func nums(l ...uint64) []byte { return num(nil, l...) }

func packed(s api.Stamp) uint64 { return uint64(s.Time)*256 + uint64(s.Node) }

func flag(yes bool) uint64 {
	if yes {
		return 1
	}
	return 0
}

// plainWrites writes writes, whether they may be or not.
func plainWrites(b []byte, l []api.Write) []byte {
	b = num(b, uint64(len(l)))
	for _, x := range l {
		b = append(b, x.Key[:]...)
		b = num(b, flag(x.Gone), uint64(len(x.Value)))
		b = append(b, x.Value...)
	}
	return b
}

// plain writes a record that may be. No ID of one is below 0, so that Zig
// doubles it.
func plain(r Record) []byte {
	b := nums(uint64(r.Kind), uint64(r.ID)*2)
	switch r.Kind {
	case 1:
		return plainWrites(num(b, packed(r.Snap), packed(r.Stamp)), r.Writes)
	case 2, 5:
		return num(b, packed(r.Stamp))
	case 4:
		b = num(b, flag(r.Yes), packed(r.Stamp), uint64(len(r.Parts)))
		for _, p := range r.Parts {
			b = num(b, uint64(p))
		}
	}
	return b
}

// lax reads whatever is there, also numbers with noughts at their end: what it
// told is to be written again, and held against what it read.
type lax struct {
	b  []byte
	ok bool
}

func (x *lax) num() uint64 {
	v, n := binary.Uvarint(x.b)
	if n <= 0 {
		x.ok = false
		return 0
	}
	x.b = x.b[n:]
	return v
}

func (x *lax) some(n uint64) string {
	if n > uint64(len(x.b)) {
		x.ok = false
		return ""
	}
	s := string(x.b[:n])
	x.b = x.b[n:]
	return s
}

func (x *lax) stamp() api.Stamp {
	v := x.num()
	return at(int64(v/256), uint8(v%256))
}

func (x *lax) writes() []api.Write {
	var l []api.Write
	for n := x.num(); x.ok && uint64(len(l)) < n; {
		y := api.Write{Key: k(x.some(16))}
		y.Gone = x.num() == 1
		y.Value = x.some(x.num())
		l = append(l, y)
	}
	return l
}

func (x *lax) record() Record {
	r := Record{Kind: int(x.num())}
	r.ID = int64(x.num() / 2)
	switch r.Kind {
	case 1:
		r.Snap = x.stamp()
		r.Stamp = x.stamp()
		r.Writes = x.writes()
	case 2, 5:
		r.Stamp = x.stamp()
	case 4:
		r.Yes = x.num() == 1
		r.Stamp = x.stamp()
		for n := x.num(); x.ok && uint64(len(r.Parts)) < n; {
			r.Parts = append(r.Parts, int(x.num()))
		}
	}
	return r
}

// plainGet reads a record, and tells whether the bytes are just one that may
// be.
func plainGet(b []byte) (Record, bool) {
	x := lax{b, true}
	r := x.record()
	if !x.ok || bad(r) || !bytes.Equal(plain(r), b) {
		return Record{}, false
	}
	return r, true
}

// plainGetWrites reads writes: of how many bytes, and whether they are there.
func plainGetWrites(b []byte) ([]api.Write, int, bool) {
	x := lax{b, true}
	l := x.writes()
	if !x.ok || len(l) > 0 && badWrites(l) || !bytes.HasPrefix(b, plainWrites(nil, l)) {
		return nil, 0, false
	}
	return l, len(plainWrites(nil, l)), true
}

// alike compares field by field.
func alike(a, b Record) bool {
	return a.Kind == b.Kind && a.ID == b.ID && a.Snap == b.Snap && a.Stamp == b.Stamp && a.Yes == b.Yes &&
		slices.Equal(a.Writes, b.Writes) && slices.Equal(a.Parts, b.Parts)
}

func isZero(r Record) bool { return alike(r, Record{}) && r.Writes == nil && r.Parts == nil }

// good fails, unless Good is as it should be, Put writes just that, and Get
// reads it.
func good(t *testing.T, r Record, want bool) {
	t.Helper()
	if bad(r) == want {
		t.Fatalf("by hand: %v: %v; want %v", r, !want, want)
	}
	if got := Good(r); got != want {
		t.Errorf("P14.1: Good(%v): %v; want %v", r, got, want)
	}
	b := Put(r)
	if !want {
		if len(b) != 0 {
			t.Errorf("P14.1: Put of one that is not Good, %v: %x", r, b)
		}
		return
	}
	if !bytes.Equal(b, plain(r)) {
		t.Errorf("P14.1: Put(%v): %x; want %x", r, b, plain(r))
	}
	if got, err := Get(b); err != api.OK || !alike(got, r) {
		t.Errorf("P14.1: Get of Put of %v: %v, %v", r, got, err)
	}
}

// refused fails, unless Get answers EFORM, and zero beside it.
func refused(t *testing.T, what string, b []byte) {
	t.Helper()
	if r, err := Get(b); err != api.EFORM || !isZero(r) {
		t.Errorf("P14.1: Get of %s, %.300x: %v, %v; want EFORM", what, b, r, err)
	}
	if r, ok := plainGet(b); ok {
		t.Fatalf("by hand: %s, %.300x: %v", what, b, r)
	}
}

// refusedWrites fails, unless GetWrites answers EFORM, and zero beside it.
func refusedWrites(t *testing.T, what string, b []byte) {
	t.Helper()
	if l, n, err := GetWrites(b); err != api.EFORM || l != nil || n != 0 {
		t.Errorf("P14.1: GetWrites of %s, %.300x: %v, %d, %v; want EFORM", what, b, l, n, err)
	}
	if l, n, ok := plainGetWrites(b); ok {
		t.Fatalf("by hand: %s, %.300x: %v, %d", what, b, l, n)
	}
}

// asPlain fails, unless Get and GetWrites tell what the plain ones do.
func asPlain(t *testing.T, b []byte) (taken bool) {
	t.Helper()
	r, err := Get(b)
	want, ok := plainGet(b)
	if (err == api.OK) != ok || !ok && (err != api.EFORM || !isZero(r)) || !alike(r, want) {
		t.Fatalf("P14.1: Get(%x): %v, %v; want %v, %v", b, r, err, want, ok)
	}
	if ok && !bytes.Equal(Put(r), b) {
		t.Fatalf("P14.1: Put of Get of %x: %x", b, Put(r))
	}
	l, n, err := GetWrites(b)
	wantL, wantN, okL := plainGetWrites(b)
	if (err == api.OK) != okL || !okL && (err != api.EFORM || l != nil) || !slices.Equal(l, wantL) || n != wantN {
		t.Fatalf("P14.1: GetWrites(%x): %v, %d, %v; want %v, %d, %v", b, l, n, err, wantL, wantN, okL)
	}
	return ok
}

// The limits are as the tests take them.
func TestLimits(t *testing.T) {
	if api.MaxTime != top || api.MaxValue != long || api.MaxWrites != most || api.MaxNodes != nodes {
		t.Fatalf("limits: %d, %d, %d, %d", int64(api.MaxTime), api.MaxValue, api.MaxWrites, api.MaxNodes)
	}
}

// P14.1: the chapter's example.
func TestExample(t *testing.T) {
	if b := Put(Record{Kind: 3, ID: 1}); !bytes.Equal(b, []byte{3, 2}) {
		t.Errorf("P14.1: Put of Kind 3, ID 1: %v; want 3 2", b)
	}
	if r, err := Get([]byte{3, 2}); err != api.OK || !alike(r, Record{Kind: 3, ID: 1}) {
		t.Errorf("P14.1: Get of 3 2: %v, %v", r, err)
	}
}

// P14.1: Kinds from 1 to 5, whatever the record has.
func TestGoodKinds(t *testing.T) {
	for kind := 1; kind <= 5; kind++ {
		good(t, of(kind), true)
	}
	for _, kind := range []int{0, 6, 7, -1, -2, -5, 255, 257, 1<<32 + 1, 1<<32 + 3, math.MinInt, math.MinInt + 3, math.MaxInt} {
		good(t, Record{Kind: kind}, false)
		good(t, Record{Kind: kind, ID: 1}, false)
		for like := 1; like <= 5; like++ {
			r := of(like)
			r.Kind = kind
			good(t, r, false)
		}
	}
	for kind := 1; kind <= 5; kind++ {
		for like := 1; like <= 5; like++ {
			r := of(like)
			r.Kind = kind
			// A zero Stamp may be: so what an aborted one has will do.
			good(t, r, kind == like || kind == 2 && like == 3)
		}
	}
}

// P14.1: an ID from 1 on; of Kind 5 it is 0.
func TestGoodIDs(t *testing.T) {
	for kind := 1; kind <= 5; kind++ {
		r := of(kind)
		for _, id := range []int64{1, 2, 63, 64, 1 << 32, math.MaxInt64 - 1, math.MaxInt64} {
			r.ID = id
			good(t, r, kind != 5)
		}
		for _, id := range []int64{-1, -2, -1 << 32, math.MinInt64 + 1, math.MinInt64} {
			r.ID = id
			good(t, r, false)
		}
		r.ID = 0
		good(t, r, kind == 5)
	}
	for _, id := range []int64{-1, 0, 1, math.MaxInt64} {
		r := no(1)
		r.ID = id
		good(t, r, id > 0)
	}
}

// P14.1: what a Kind has not is zero: one field at a time.
func TestGoodHasNot(t *testing.T) {
	set := map[string]func(r *Record){
		"Snap's Time":  func(r *Record) { r.Snap = at(1, 0) },
		"Snap's Node":  func(r *Record) { r.Snap = at(0, 1) },
		"a Snap":       func(r *Record) { r.Snap = at(1, 1) },
		"a wrong Snap": func(r *Record) { r.Snap = at(-1, 0) },
		"Stamp's Time": func(r *Record) { r.Stamp = at(1, 0) },
		"Stamp's Node": func(r *Record) { r.Stamp = at(0, 1) },
		"Writes":       func(r *Record) { r.Writes = []api.Write{w("a", "x")} },
		"a zero write": func(r *Record) { r.Writes = make([]api.Write, 1) },
		"Yes":          func(r *Record) { r.Yes = true },
		"Parts":        func(r *Record) { r.Parts = []int{1} },
		"a zero part":  func(r *Record) { r.Parts = []int{0} },
	}
	snaps := []string{"Snap's Time", "Snap's Node", "a Snap", "a wrong Snap"}
	stamps := []string{"Stamp's Time", "Stamp's Node"}
	writes := []string{"Writes", "a zero write"}
	parts := []string{"Parts", "a zero part"}
	for _, c := range []struct {
		r   Record
		not [][]string
	}{
		{of(1), [][]string{{"Yes"}, parts}}, {of(2), [][]string{snaps, writes, {"Yes"}, parts}}, {of(3), [][]string{snaps, stamps, writes, {"Yes"}, parts}},
		{of(4), [][]string{snaps, writes}}, {no(0, 7), [][]string{snaps, stamps, writes}}, {of(5), [][]string{snaps, {"Stamp's Node"}, writes, {"Yes"}, parts}},
	} {
		good(t, c.r, true)
		empty := c.r
		empty.Writes, empty.Parts = append([]api.Write{}, c.r.Writes...), append([]int{}, c.r.Parts...)
		good(t, empty, true)
		for _, what := range slices.Concat(c.not...) {
			x := c.r
			set[what](&x)
			good(t, x, false)
		}
	}
}

// P14.1: a prepared one's stamps: each may be, and Stamp is above Snap.
func TestGoodPreparedStamps(t *testing.T) {
	for _, c := range []struct {
		snap, stamp api.Stamp
		want        bool
	}{
		{at(0, 0), at(0, 1), true}, {at(0, 0), at(1, 0), true}, {at(0, 255), at(1, 0), true}, {at(0, 0), at(top, 255), true}, {at(top, 254), at(top, 255), true}, {at(top-1, 255), at(top, 0), true},
		{at(5, 3), at(5, 4), true}, {at(5, 3), at(5, 255), true}, {at(5, 255), at(6, 0), true},
		{at(5, 3), at(5, 3), false}, {at(0, 0), at(0, 0), false}, {at(top, 255), at(top, 255), false}, {at(5, 3), at(5, 2), false}, {at(5, 0), at(4, 255), false}, {at(top, 0), at(0, 255), false},
		{at(-1, 0), at(0, 0), false}, {at(-1, 255), at(5, 0), false}, {at(math.MinInt64, 0), at(5, 0), false}, {at(-2, 0), at(-1, 0), false},
		{at(0, 0), at(top+1, 0), false}, {at(top, 255), at(top+1, 0), false}, {at(5, 0), at(math.MaxInt64, 255), false}, {at(top+1, 0), at(top+1, 1), false}, {at(top+1, 0), at(5, 0), false},
	} {
		r := of(1)
		r.Snap, r.Stamp = c.snap, c.stamp
		good(t, r, c.want)
	}
}

// P14.1: a prepared one's Writes: how many, and which.
func TestGoodPreparedWrites(t *testing.T) {
	r := of(1)
	for n := range 3 * most {
		r.Writes = many(n, 2)
		good(t, r, n >= 1 && n <= most)
	}
	r.Writes = []api.Write{}
	good(t, r, false)
	r.Writes = many(most, long)
	good(t, r, true)
	tooLong := strings.Repeat("x", long+1)
	for _, c := range []struct {
		one  api.Write
		want bool
	}{
		{w("a", ""), true}, {w("a", "\x00"), true}, {w("a", strings.Repeat("x", 127)), true}, {w("a", strings.Repeat("x", 128)), true}, {w("a", strings.Repeat("x", long)), true}, {w("a", strings.Repeat("\xff", long)), true},
		{gone("a"), true}, {w("\x01", "x"), true}, {w("sixteen bytes...", "x"), true}, {gone(strings.Repeat("\xff", 16)), true},
		{api.Write{}, false}, {w("", "x"), false}, {gone(""), false}, {w("\x00a", "x"), false}, {w("a\x00b", "x"), false}, {w(strings.Repeat("\x00", 15)+"b", "x"), false},
		{w("a", tooLong), false}, {w("a", strings.Repeat("ä", long/2)+"x"), false}, {api.Write{Key: k("a"), Value: "x", Gone: true}, false}, {api.Write{Key: k("a"), Value: "\x00", Gone: true}, false}, {api.Write{Key: k("a"), Value: tooLong, Gone: true}, false},
	} {
		for _, n := range []int{1, 3, most} {
			for _, place := range places(n) {
				r.Writes = with(n, place, c.one)
				good(t, r, c.want)
			}
		}
	}
	for _, n := range []int{2, 3, most} {
		for i := range n {
			for j := range i {
				r.Writes = with(n, i, w("a", "x"))
				r.Writes[j] = gone("a")
				good(t, r, false)
			}
		}
	}
}

// P14.1: a prepared one is Good just where prep's Entry of it is.
func TestGoodAsEntry(t *testing.T) {
	r := rand.New(rand.NewSource(13))
	seen := map[bool]int{}
	for range 5000 {
		one := anyRecord(r)
		one.Kind, one.Yes, one.Parts = 1, false, nil
		want := prep.Good(prep.Entry{ID: one.ID, Snap: one.Snap, Stamp: one.Stamp, Writes: one.Writes})
		good(t, one, want)
		seen[want]++
	}
	if seen[true] < 100 || seen[false] < 100 {
		t.Errorf("drawn: %v", seen)
	}
}

// P14.1: the stamps of Kinds 2, 4 and 5.
func TestGoodStamps(t *testing.T) {
	for _, c := range []struct {
		time int64
		want bool
	}{{math.MinInt64, false}, {-1, false}, {0, true}, {1, true}, {top - 1, true}, {top, true}, {top + 1, false}, {math.MaxInt64, false}} {
		for _, node := range []uint8{0, 1, 255} {
			for _, kind := range []int{2, 4, 5} {
				r := of(kind)
				r.Stamp = at(c.time, node)
				good(t, r, c.want && (kind != 5 || node == 0))
			}
			r := no(1)
			r.Stamp = at(c.time, node)
			good(t, r, c.time == 0 && node == 0)
		}
	}
}

// P14.1: Parts: from 0 to MaxNodes - 1, rising, at least one; with Yes and
// without.
func TestGoodParts(t *testing.T) {
	wrong := [][]int{
		nil, {}, {-1}, {nodes}, {math.MinInt}, {math.MaxInt}, {-1, 0}, {0, nodes}, {-1, nodes}, upTo(nodes + 1), upTo(2 * nodes), {0, 1, 2, -1}, {1 << 32}, {1<<32 + 1},
		{0, 0}, {7, 7}, {3, 3}, {0, 0, 1}, {0, 1, 1}, {1, 0}, {7, 0}, {0, 2, 1}, {1, 0, 2}, {0, 1, 0}, {0, 1, 2, 3, 4, 5, 7, 6}, append(upTo(nodes), 7), append(upTo(nodes), 0), slices.Repeat([]int{0}, nodes+1),
	}
	for set := range 1 << nodes {
		var l []int
		for i := range nodes {
			if set>>i&1 == 1 {
				l = append(l, i)
			}
		}
		r := of(4)
		r.Parts = l
		good(t, r, len(l) > 0)
		good(t, no(l...), len(l) > 0)
	}
	for _, l := range wrong {
		r := of(4)
		r.Parts = l
		good(t, r, false)
		good(t, no(l...), false)
	}
}

// P14.1: Put by hand, at the least and the greatest numbers.
func TestPutByHand(t *testing.T) {
	const maxID = "\xfe\xff\xff\xff\xff\xff\xff\xff\xff\x01"
	const maxStamp = "\xff\xff\xff\xff\xff\xff\xff\xff\x7f"
	const maxTime = "\x80\xfe\xff\xff\xff\xff\xff\xff\x7f"
	noughts := func(n int) string { return strings.Repeat("\x00", n) }
	full := ""
	for i := range most {
		full += "key of 16 byte" + string(rune('a'+i)) + "!" + "\x00\xc8\x01" + strings.Repeat("v", long)
	}
	var fullWrites []api.Write
	for i := range most {
		fullWrites = append(fullWrites, w("key of 16 byte"+string(rune('a'+i))+"!", strings.Repeat("v", long)))
	}
	for _, c := range []struct {
		r    Record
		want string
	}{
		{Record{Kind: 1, ID: 1, Stamp: at(0, 1), Writes: []api.Write{w("a", "")}}, "\x01\x02\x00\x01\x01a" + noughts(15) + "\x00\x00"},
		{Record{Kind: 1, ID: 300, Snap: at(1, 2), Stamp: at(3, 0), Writes: []api.Write{w("b", "val"), gone("a")}}, "\x01\xd8\x04\x82\x02\x80\x06\x02b" + noughts(15) + "\x00\x03vala" + noughts(15) + "\x01\x00"},
		{Record{Kind: 1, ID: math.MaxInt64, Snap: at(top, 0), Stamp: at(top, 255), Writes: fullWrites}, "\x01" + maxID + maxTime + maxStamp + "\x10" + full},
		{Record{Kind: 2, ID: 1}, "\x02\x02\x00"}, {Record{Kind: 2, ID: 63, Stamp: at(0, 127)}, "\x02\x7e\x7f"}, {Record{Kind: 2, ID: 64, Stamp: at(0, 128)}, "\x02\x80\x01\x80\x01"}, {Record{Kind: 2, ID: 7, Stamp: at(1, 2)}, "\x02\x0e\x82\x02"},
		{Record{Kind: 2, ID: math.MaxInt64, Stamp: at(top, 255)}, "\x02" + maxID + maxStamp},
		{Record{Kind: 3, ID: 1}, "\x03\x02"}, {Record{Kind: 3, ID: 150}, "\x03\xac\x02"}, {Record{Kind: 3, ID: math.MaxInt64}, "\x03" + maxID},
		{Record{Kind: 4, ID: 1, Parts: []int{0}}, "\x04\x02\x00\x00\x01\x00"}, {Record{Kind: 4, ID: 1, Yes: true, Parts: []int{7}}, "\x04\x02\x01\x00\x01\x07"},
		{Record{Kind: 4, ID: 2, Yes: true, Stamp: at(5, 1), Parts: []int{0, 7}}, "\x04\x04\x01\x81\x0a\x02\x00\x07"},
		{Record{Kind: 4, ID: math.MaxInt64, Yes: true, Stamp: at(top, 255), Parts: upTo(nodes)}, "\x04" + maxID + "\x01" + maxStamp + "\x08\x00\x01\x02\x03\x04\x05\x06\x07"},
		{Record{Kind: 4, ID: math.MaxInt64, Parts: upTo(nodes)}, "\x04" + maxID + "\x00\x00\x08\x00\x01\x02\x03\x04\x05\x06\x07"},
		{Record{Kind: 5}, "\x05\x00\x00"}, {Record{Kind: 5, Stamp: at(1, 0)}, "\x05\x00\x80\x02"}, {Record{Kind: 5, Stamp: at(top, 0)}, "\x05\x00" + maxTime},
	} {
		if got := string(Put(c.r)); got != c.want {
			t.Errorf("P14.1: Put(%v): %x; want %x", c.r, got, c.want)
		}
		if r, err := Get([]byte(c.want)); err != api.OK || !alike(r, c.r) {
			t.Errorf("P14.1: Get(%x): %v, %v; want %v", c.want, r, err, c.r)
		}
		good(t, c.r, true)
	}
}

// samples are records of all Kinds, short and long.
func samples() []Record {
	l := []Record{of(1), of(2), of(3), of(4), of(5), no(0), no(upTo(nodes)...), {Kind: 3, ID: math.MaxInt64}, {Kind: 2, ID: 64, Stamp: at(top, 255)}, {Kind: 5, Stamp: at(top, 0)}, {Kind: 5}, {Kind: 2, ID: 1}}
	for _, n := range []int{1, 2, 3, most} {
		for _, size := range []int{0, 1, 2, long} {
			l = append(l, Record{Kind: 1, ID: 300, Snap: at(1, 2), Stamp: at(1<<40, 3), Writes: many(n, size)})
		}
	}
	return append(l, Record{Kind: 1, ID: 1, Stamp: at(0, 1), Writes: []api.Write{w("a", strings.Repeat("\x00", 130))}})
}

// P14.1: each beginning of what Put wrote, and bytes behind it, are no record.
func TestGetShorterAndLonger(t *testing.T) {
	for _, r := range samples() {
		b := plain(r)
		for n := range b {
			refused(t, "a beginning", b[:n])
		}
		for v := range 256 {
			refused(t, "one byte more", append(slices.Clone(b), byte(v)))
		}
		refused(t, "it twice", slices.Concat(b, b))
		refused(t, "it behind a byte 0", slices.Concat([]byte{0}, b))
		refused(t, "it without its first byte", b[1:])
	}
	refused(t, "no byte", nil)
	refused(t, "no byte", []byte{})
}

// P14.1: what Put wrote, with one byte turned into each other one.
func TestGetTurned(t *testing.T) {
	seen := map[bool]int{}
	for _, r := range samples() {
		b := plain(r)
		for i, was := range b {
			for v := range 256 {
				if len(b) > 300 && v > 2 && v != int(was^1) && v != int(was^128) {
					continue
				}
				if b[i] = byte(v); b[i] != was {
					seen[asPlain(t, b)]++
				}
			}
			b[i] = was
		}
	}
	if seen[true] < 1000 || seen[false] < 1000 {
		t.Errorf("turned: %v", seen)
	}
}

// P14.1: what Put wrote, with any byte taken out, put in, or moved.
func TestGetShifted(t *testing.T) {
	for _, r := range samples() {
		b := plain(r)
		for i := range b {
			if len(b) > 300 && i%7 > 0 {
				continue
			}
			asPlain(t, slices.Concat(b[:i], b[i+1:]))
			for _, v := range []byte{0, 1, 2, 127, 128, 129, 255} {
				asPlain(t, slices.Concat(b[:i], []byte{v}, b[i:]))
			}
			asPlain(t, slices.Concat(b[i:], b[:i]))
		}
	}
}

// stretch is a number with a nought behind it that it needs not.
func stretch(v uint64) []byte {
	b := nums(v)
	b[len(b)-1] |= 128
	return append(b, 0)
}

// P14.1: a number with more bytes than it needs, wherever it stands.
func TestGetLongNumbers(t *testing.T) {
	a := k("a")
	raw := func(s string) []byte { return []byte(s) }
	for _, pieces := range [][]any{
		{3, 2}, {2, 2, 258}, {5, 0, 256}, {4, 4, 1, 258, 2, 0, 7}, {4, 4, 0, 0, 1, 3}, {1, 2, 256, 512, 1, raw(string(a[:])), 0, 3, raw("val")}, {1, 2, 256, 512, 1, raw(string(a[:])), 1, 0},
	} {
		for long := -1; long < len(pieces); long++ {
			var b []byte
			stretched := false
			for i, p := range pieces {
				switch v := p.(type) {
				case []byte:
					b = append(b, v...)
				case int:
					if i == long {
						b, stretched = append(b, stretch(uint64(v))...), true
						continue
					}
					b = num(b, uint64(v))
				}
			}
			if stretched {
				refused(t, "a long number", b)
			} else if r, err := Get(b); err != api.OK {
				t.Errorf("P14.1: Get(%x): %v, %v", b, r, err)
			}
		}
	}
}

// P14.1: wrong ones, by hand.
func TestGetWrong(t *testing.T) {
	const big = math.MaxUint64
	body := plainWrites(nil, []api.Write{w("b", "val"), gone("a")})
	head := nums(1, 2, 256, 512)
	key := string(append([]byte{}, body[1:17]...))
	for what, l := range map[string][][]byte{
		"a Kind that is none":        {nums(0), nums(0, 0), nums(0, 2), nums(6, 2), nums(7, 2), nums(127, 2), nums(255, 2), nums(259, 2), nums(1<<32+3, 2), nums(1<<63+3, 2), nums(big, 2), nums(big-2, 2)},
		"an ID below 1":              {nums(3, 0), nums(3, 1), nums(3, 3), nums(3, big), nums(2, 0, 256), nums(2, 1, 256), nums(4, 0, 0, 0, 1, 3), nums(4, 1, 0, 0, 1, 3), append(nums(1, 0, 256, 512), body...), append(nums(1, 1, 256, 512), body...)},
		"an ID that is not 0":        {nums(5, 2, 0), nums(5, 1, 0), nums(5, 2, 256), nums(5, big, 256), nums(5, big-1, 256)},
		"a Node that is not 0":       {nums(5, 0, 1), nums(5, 0, 255), nums(5, 0, 257), nums(5, 0, 1<<63-1)},
		"a stamp that may not be":    {nums(2, 2, 1<<63), nums(2, 2, big), nums(5, 0, 1<<63), nums(4, 4, 1, 1<<63, 1, 3), append(nums(1, 2, 1<<63, 512), body...), append(nums(1, 2, 0, 1<<63), body...), append(nums(1, 2, 1<<63, 1<<63+1), body...)},
		"a Stamp not above Snap":     {append(nums(1, 2, 256, 256), body...), append(nums(1, 2, 512, 256), body...), append(nums(1, 2, 257, 256), body...), append(nums(1, 2, 0, 0), body...)},
		"Yes that is no bool":        {nums(4, 4, 2, 0, 1, 3), nums(4, 4, 2, 256, 1, 3), nums(4, 4, 127, 0, 1, 3), nums(4, 4, 256, 0, 1, 3), nums(4, 4, 257, 256, 1, 3), nums(4, 4, big, 0, 1, 3)},
		"a Stamp without Yes":        {nums(4, 4, 0, 1, 1, 3), nums(4, 4, 0, 256, 1, 3), nums(4, 4, 0, 1<<63-1, 1, 3), nums(4, 4, 0, 1<<63, 1, 3)},
		"no Parts":                   {nums(4, 4, 0, 0, 0), nums(4, 4, 1, 256, 0)},
		"too many Parts":             {nums(4, 4, 0, 0, 9, 0, 1, 2, 3, 4, 5, 6, 7, 8), nums(4, 4, 0, 0, 9, 0, 1, 2, 3, 4, 5, 6, 7), nums(4, 4, 0, 0, 9, 0, 1, 2, 3, 4, 5, 6, 7, 7), nums(4, 4, 0, 0, big, 0), nums(4, 4, 0, 0, 1<<63, 0), nums(4, 4, 0, 0, 1<<32+1, 0), nums(4, 4, 0, 0, 1<<40)},
		"Parts that are none":        {nums(4, 4, 0, 0, 1, 8), nums(4, 4, 0, 0, 1, 255), nums(4, 4, 0, 0, 1, 256), nums(4, 4, 0, 0, 1, 1<<32), nums(4, 4, 0, 0, 1, big), nums(4, 4, 0, 0, 2, 0, 8)},
		"Parts that do not rise":     {nums(4, 4, 0, 0, 2, 3, 3), nums(4, 4, 0, 0, 2, 3, 1), nums(4, 4, 1, 256, 3, 0, 2, 1), nums(4, 4, 0, 0, 2, 0, 0)},
		"fewer Parts than it says":   {nums(4, 4, 0, 0, 2, 3), nums(4, 4, 0, 0, 8, 0, 1, 2, 3, 4, 5, 6), nums(4, 4, 0, 0, 1)},
		"more Parts than it says":    {nums(4, 4, 0, 0, 1, 3, 4), nums(4, 4, 0, 0, 0, 3)},
		"no Writes":                  {num(slices.Clone(head), 0), head},
		"too many Writes":            {num(slices.Clone(head), big), num(slices.Clone(head), 1<<63), num(slices.Clone(head), 1<<32+1), num(slices.Clone(head), 17), plainWrites(slices.Clone(head), many(most+1, 1)), plainWrites(slices.Clone(head), many(100, 0)), append(num(slices.Clone(head), big), body[1:]...)},
		"Gone that is no bool":       {[]byte(string(head) + "\x01" + key + "\x02\x00"), []byte(string(head) + "\x01" + key + "\x80\x02\x00"), []byte(string(head) + "\x01" + key + "\xff\x00")},
		"one Gone with a Value":      {[]byte(string(head) + "\x01" + key + "\x01\x01x"), []byte(string(head) + "\x01" + key + "\x01\x01\x00")},
		"a key that may not be":      {plainWrites(slices.Clone(head), []api.Write{w("", "x")}), plainWrites(slices.Clone(head), []api.Write{w("a\x00b", "x")}), plainWrites(slices.Clone(head), []api.Write{w("c", ""), gone("\x00b")})},
		"a key twice":                {plainWrites(slices.Clone(head), []api.Write{w("a", "x"), w("a", "y")}), plainWrites(slices.Clone(head), append(many(most-1, 1), gone("m0")))},
		"a Value that is too long":   {plainWrites(slices.Clone(head), []api.Write{w("a", strings.Repeat("x", long+1))}), plainWrites(slices.Clone(head), []api.Write{w("a", strings.Repeat("x", 1<<16))})},
		"a Value past the end":       {[]byte(string(head) + "\x01" + key + "\x00\x01"), []byte(string(head) + "\x01" + key + "\x00\x04val"), append([]byte(string(head)+"\x01"+key+"\x00"), nums(big)...), append([]byte(string(head)+"\x01"+key+"\x00"), nums(1<<63)...), append([]byte(string(head)+"\x01"+key+"\x00"), append(nums(1<<32+1), 'x')...)},
		"a key past the end":         {[]byte(string(head) + "\x01" + key[:15]), []byte(string(head) + "\x02" + key + "\x00\x00" + key[:1])},
		"something behind an abort":  {nums(3, 2, 0), nums(3, 2, 256)},
		"no Stamp":                   {nums(2, 2), nums(5, 0), nums(4, 4, 1), nums(4, 4, 0), nums(1, 2), nums(1, 2, 256), nums(4, 4, 0, 0)},
		"more bits than a number":    {[]byte("\x03\x80\x80\x80\x80\x80\x80\x80\x80\x80\x02"), []byte("\x03\x82\x80\x80\x80\x80\x80\x80\x80\x80\x80\x01"), []byte("\x02\x02\x80\x80\x80\x80\x80\x80\x80\x80\x80\x03")},
		"the bytes of other records": {[]byte("hello"), bytes.Repeat([]byte{0}, 100), bytes.Repeat([]byte{255}, 100), bytes.Repeat([]byte{1}, 100)},
	} {
		for _, b := range l {
			refused(t, what, b)
		}
	}
}

// P14.1: any bytes, held against a reader that writes again what it read.
func TestGetAny(t *testing.T) {
	r := rand.New(rand.NewSource(14))
	taken := 0
	for range 200000 {
		b := make([]byte, r.Intn(12))
		for i := range b {
			b[i] = byte(r.Intn(10))
			if r.Intn(8) == 0 {
				b[i] = byte(r.Intn(256))
			}
		}
		if asPlain(t, b) {
			taken++
		}
	}
	if taken < 1000 {
		t.Errorf("only %d were taken", taken)
	}
}

// P14.1: Same of all that are alike, also with nil and empty lists.
func TestSameAlike(t *testing.T) {
	all := append(samples(), Record{}, Record{Kind: -1, ID: -1, Snap: at(-1, 9), Stamp: at(top+1, 0), Writes: []api.Write{{}, {}}, Yes: true, Parts: []int{9, -9}}, Record{ID: 5, Writes: many(40, 300)})
	for i, a := range all {
		for j, b := range all {
			copied := b
			copied.Writes, copied.Parts = append([]api.Write{}, b.Writes...), append([]int{}, b.Parts...)
			if Same(a, b) != (i == j) || Same(a, copied) != (i == j) || Same(copied, a) != (i == j) {
				t.Errorf("P14.1: Same(%v, %v)", a, b)
			}
		}
	}
	for _, c := range [][2]Record{{{}, {Writes: []api.Write{}}}, {{}, {Parts: []int{}}}, {{Writes: []api.Write{}}, {Parts: []int{}}}, {{Kind: 9, Writes: make([]api.Write, 0, 5)}, {Kind: 9}}} {
		if !Same(c[0], c[1]) || !Same(c[1], c[0]) {
			t.Errorf("P14.1: nil and empty lists are not alike: %v", c)
		}
	}
}

// P14.1: Same of two that are unlike in one field alone, whether they are Good
// or not.
func TestSameUnlike(t *testing.T) {
	fresh := func(base Record) Record {
		base.Writes, base.Parts = slices.Clone(base.Writes), slices.Clone(base.Parts)
		return base
	}
	full := Record{Kind: 1, ID: 7, Snap: at(4, 1), Stamp: at(5, 2), Writes: []api.Write{w("b", "val"), gone("a")}, Yes: true, Parts: []int{0, 3}}
	turns := map[string]func(r *Record){
		"Kind":              func(r *Record) { r.Kind = 2 },
		"Kind below":        func(r *Record) { r.Kind = -1 },
		"ID":                func(r *Record) { r.ID = 8 },
		"ID, its top":       func(r *Record) { r.ID ^= math.MinInt64 },
		"Snap's Time":       func(r *Record) { r.Snap.Time++ },
		"Snap's Node":       func(r *Record) { r.Snap.Node++ },
		"Stamp's Time":      func(r *Record) { r.Stamp.Time++ },
		"Stamp's Node":      func(r *Record) { r.Stamp.Node++ },
		"one write more":    func(r *Record) { r.Writes = append(r.Writes, w("c", "")) },
		"a zero write more": func(r *Record) { r.Writes = append(r.Writes, api.Write{}) },
		"Yes":               func(r *Record) { r.Yes = !r.Yes },
		"one part more":     func(r *Record) { r.Parts = append(r.Parts, 7) },
		"a zero part more":  func(r *Record) { r.Parts = append(r.Parts, 0) },
	}
	ofFull := map[string]func(r *Record){
		"no writes":            func(r *Record) { r.Writes = nil },
		"one write less":       func(r *Record) { r.Writes = r.Writes[:1] },
		"the first key":        func(r *Record) { r.Writes[0].Key = k("bb") },
		"the last key":         func(r *Record) { r.Writes[1].Key[15] = 1 },
		"the first Value":      func(r *Record) { r.Writes[0].Value = "vam" },
		"a longer Value":       func(r *Record) { r.Writes[0].Value = "val " },
		"the last Value":       func(r *Record) { r.Writes[1].Value = "\x00" },
		"the first one Gone":   func(r *Record) { r.Writes[0].Gone = true },
		"the last one there":   func(r *Record) { r.Writes[1].Gone = false },
		"writes in two places": func(r *Record) { r.Writes[0], r.Writes[1] = r.Writes[1], r.Writes[0] },
		"no parts":             func(r *Record) { r.Parts = nil },
		"one part less":        func(r *Record) { r.Parts = r.Parts[:1] },
		"the first part":       func(r *Record) { r.Parts[0] = 1 },
		"the last part":        func(r *Record) { r.Parts[1] = 2 },
		"parts in two places":  func(r *Record) { r.Parts[0], r.Parts[1] = 3, 0 },
	}
	unlike := func(what string, base Record, turn func(r *Record)) {
		other := fresh(base)
		turn(&other)
		if Same(base, other) || Same(other, base) || !Same(base, fresh(base)) || !Same(other, fresh(other)) {
			t.Errorf("P14.1: Same of %v with %s: %v", base, what, other)
		}
	}
	for what, turn := range turns {
		for _, base := range []Record{full, of(1), of(3), of(4), of(5), {}, {Kind: 6, ID: -3, Snap: at(-9, 0), Writes: many(30, 1)}} {
			unlike(what, base, turn)
		}
	}
	for what, turn := range ofFull {
		unlike(what, full, turn)
	}
}

// P14.1: PutWrites behind no byte and behind some, also of writes that may not
// be.
func TestPutWrites(t *testing.T) {
	noughts := strings.Repeat("\x00", 15)
	for _, c := range []struct {
		l    []api.Write
		want string
	}{
		{nil, "\x00"}, {[]api.Write{}, "\x00"}, {[]api.Write{w("a", "")}, "\x01a" + noughts + "\x00\x00"}, {[]api.Write{gone("a")}, "\x01a" + noughts + "\x01\x00"},
		{[]api.Write{w("b", "val"), gone("a")}, "\x02b" + noughts + "\x00\x03vala" + noughts + "\x01\x00"}, {[]api.Write{w("sixteen bytes...", strings.Repeat("x", long))}, "\x01sixteen bytes...\x00\xc8\x01" + strings.Repeat("x", long)},
		{[]api.Write{{}}, "\x01\x00" + noughts + "\x00\x00"}, {[]api.Write{{Value: "x", Gone: true}}, "\x01\x00" + noughts + "\x01\x01x"},
		{many(most, long), string(plainWrites(nil, many(most, long)))}, {many(most+1, 1), string(plainWrites(nil, many(most+1, 1)))}, {many(300, 301), string(plainWrites(nil, many(300, 301)))},
	} {
		for _, ahead := range []string{"", "x", "\x00", "some bytes"} {
			if got := string(PutWrites([]byte(ahead), c.l)); got != ahead+c.want {
				t.Errorf("P14.1: PutWrites(%q, %v): %x; want %x", ahead, c.l, got, ahead+c.want)
			}
		}
		if got := string(PutWrites(nil, c.l)); got != c.want {
			t.Errorf("P14.1: PutWrites(nil, %v): %x; want %x", c.l, got, c.want)
		}
	}
}

// P14.1: a long list of writes takes no longer than it has bytes.
func TestPutWritesOfMany(t *testing.T) {
	l := many(200000, 3)
	if b := PutWrites([]byte("ahead"), l); !bytes.Equal(b, plainWrites([]byte("ahead"), l)) {
		t.Errorf("P14.1: PutWrites of %d writes: %d bytes", len(l), len(b))
	}
}

// lists are writes that may be, and none.
func lists() [][]api.Write {
	l := [][]api.Write{nil, {w("b", "val"), gone("a")}, {w("a", "")}, {gone(strings.Repeat("\xff", 16))}, {w("a", strings.Repeat("\x00", long))}}
	for _, n := range []int{1, 2, 7, most} {
		for _, size := range []int{0, 1, 127, 128, long} {
			l = append(l, many(n, size))
		}
	}
	return l
}

// P14.1: GetWrites of what PutWrites wrote, with nothing and with bytes behind
// it, and of each beginning of it.
func TestGetWrites(t *testing.T) {
	for _, l := range lists() {
		b := PutWrites(nil, l)
		for _, behind := range []string{"", "\x00", "\x80", "\x01", "more bytes behind them", string(b)} {
			got, n, err := GetWrites([]byte(string(b) + behind))
			if err != api.OK || n != len(b) || !slices.Equal(got, l) {
				t.Errorf("P14.1: GetWrites(%.200x, %q): %v, %d, %v; want %v, %d", b, behind, got, n, err, l, len(b))
			}
		}
		for n := range b {
			refusedWrites(t, "a beginning", b[:n])
		}
	}
	for _, b := range []string{"\x00", "\x00\x09", "\x00\x00", "\x00\x80", "\x00rest"} {
		if l, n, err := GetWrites([]byte(b)); len(l) != 0 || n != 1 || err != api.OK {
			t.Errorf("P14.1: GetWrites of none, %x: %v, %d, %v", b, l, n, err)
		}
	}
}

// P14.1: GetWrites of writes that Apply does not take, or in another form.
func TestGetWritesWrong(t *testing.T) {
	const big = math.MaxUint64
	x := k("a")
	key := string(x[:])
	raw := func(s string) []byte { return []byte(s) }
	for what, l := range map[string][][]byte{
		"no byte":                  {nil, {}},
		"a long count":             {raw("\x80\x00"), raw("\x81\x00" + key + "\x00\x00"), raw("\x80\x80\x00")},
		"too many":                 {PutWrites(nil, many(most+1, 1)), PutWrites(nil, many(most+1, 0)), PutWrites(nil, many(100, 0)), nums(17), nums(big), nums(1 << 63), nums(1<<32 + 1), append(nums(1<<32+1), raw(key+"\x00\x00")...), append(nums(big), raw(key+"\x00\x00")...), append(nums(1<<63+1), raw(key+"\x00\x00")...)},
		"a key that may not be":    {PutWrites(nil, []api.Write{{}}), PutWrites(nil, []api.Write{w("", "x")}), PutWrites(nil, []api.Write{gone("a\x00b")}), PutWrites(nil, with(most, most-1, w("\x00a", "")))},
		"a key twice":              {PutWrites(nil, []api.Write{w("a", ""), w("a", "")}), PutWrites(nil, []api.Write{w("a", "x"), w("b", ""), gone("a")}), PutWrites(nil, with(most, most-1, gone("m0")))},
		"Gone that is no bool":     {raw("\x01" + key + "\x02\x00"), raw("\x01" + key + "\x7f\x00"), raw("\x01" + key + "\x81\x02\x00"), raw("\x01" + key + "\xff\xff\xff\xff\xff\xff\xff\xff\xff\x01\x00")},
		"a long Gone":              {raw("\x01" + key + "\x80\x00\x00"), raw("\x01" + key + "\x81\x00\x00")},
		"one Gone with a Value":    {raw("\x01" + key + "\x01\x01x"), raw("\x01" + key + "\x01\x01\x00")},
		"a long length":            {raw("\x01" + key + "\x00\x80\x00"), raw("\x01" + key + "\x00\x81\x00x")},
		"a Value that is too long": {PutWrites(nil, []api.Write{w("a", strings.Repeat("x", long+1))}), PutWrites(nil, with(3, 2, w("a", strings.Repeat("x", 10000))))},
		"a Value past the end":     {raw("\x01" + key + "\x00\x01"), raw("\x01" + key + "\x00\x04val"), append(raw("\x01"+key+"\x00"), nums(big)...), append(raw("\x01"+key+"\x00"), nums(1<<63)...), append(raw("\x01"+key+"\x00"), append(nums(1<<32+1), 'x')...)},
	} {
		for _, b := range l {
			refusedWrites(t, what, b)
			if what != "a Value past the end" && what != "no byte" {
				refusedWrites(t, what+", with bytes behind", slices.Concat(b, bytes.Repeat([]byte{0}, 40)))
			}
		}
	}
}

// P14.1: GetWrites takes just what store's Apply does, but for none.
func TestGetWritesAsApply(t *testing.T) {
	r := rand.New(rand.NewSource(12))
	seen := map[bool]int{}
	for range 5000 {
		l := anyWrites(r)
		taken := len(l) == 0 || store.New().Apply(at(1, 0), l...) == api.OK
		got, n, err := GetWrites(PutWrites(nil, l))
		if (err == api.OK) != taken || taken && (!slices.Equal(got, l) || n != len(plainWrites(nil, l))) || !taken && (n != 0 || got != nil) {
			t.Fatalf("P14.1: GetWrites of %v: %v, %d, %v; Apply takes them: %v", l, got, n, err, taken)
		}
		seen[taken]++
	}
	if seen[true] < 100 || seen[false] < 100 {
		t.Errorf("drawn: %v", seen)
	}
}

// R4: the lists and the bytes that are handed in are as they were, spare room
// included, and what is written into them later changes no answer.
func TestArgumentsAreAsTheyWere(t *testing.T) {
	roomW := []api.Write{w("z", "z"), gone("y"), w("x", ""), w("spare", "s"), {Value: "spare", Gone: true}}
	roomP := []int{0, 3, 7, 99, -1}
	wasW, wasP := slices.Clone(roomW), slices.Clone(roomP)
	one := Record{Kind: 1, ID: 7, Stamp: at(5, 2), Writes: roomW[:3]}
	two := Record{Kind: 4, ID: 7, Parts: roomP[:3]}
	var puts [][]byte
	for _, r := range []Record{one, two, {Kind: 1, Writes: roomW[:4]}, {Kind: 4, Parts: roomP[:5]}} {
		Good(r)
		Same(r, r)
		Same(r, one)
		puts = append(puts, Put(r))
	}
	roomB := []byte("aheadspare room, which is as it was")
	roomB = append(roomB, bytes.Repeat([]byte("!"), 200)...)
	wasB := slices.Clone(roomB)
	behind := PutWrites(roomB[:5], roomW[:3])
	none := PutWrites(roomB[:0], roomW[:0])
	if !slices.Equal(roomW, wasW) || !slices.Equal(roomP, wasP) || !bytes.Equal(roomB, wasB) {
		t.Fatalf("R4: what was handed in is changed: %v, %v, %q", roomW, roomP, roomB)
	}
	clear(roomW)
	clear(roomP)
	clear(roomB)
	if !bytes.Equal(puts[0], plain(Record{Kind: 1, ID: 7, Stamp: at(5, 2), Writes: wasW[:3]})) || !bytes.Equal(puts[1], plain(no(0, 3, 7))) {
		t.Errorf("R4: Put hangs on its argument: %x", puts)
	}
	if !bytes.Equal(behind, plainWrites([]byte("ahead"), wasW[:3])) || string(none) != "\x00" {
		t.Errorf("R4: PutWrites hangs on its arguments: %x, %x", behind, none)
	}
}

// R4: the bytes that are read are as they were, and are not kept.
func TestBytesAreAsTheyWere(t *testing.T) {
	for _, r := range samples() {
		b := append(plain(r), "spare room"...)
		was := slices.Clone(b)
		n := len(b) - 10
		got, err := Get(b[:n])
		l, used, errL := GetWrites(b)
		wantL, wantUsed, ok := plainGetWrites(was)
		if !bytes.Equal(b, was) {
			t.Fatalf("R4: the bytes were changed: %x; they were %x", b, was)
		}
		clear(b)
		if err != api.OK || !alike(got, r) || (errL == api.OK) != ok || used != wantUsed || !slices.Equal(l, wantL) {
			t.Errorf("R4: what was read hangs on the bytes: %v", got)
		}
	}
	b := PutWrites(nil, many(most, 9))
	l, _, _ := GetWrites(b)
	clear(b)
	if !slices.Equal(l, many(most, 9)) {
		t.Errorf("R4: the writes that were read hang on the bytes: %v", l)
	}
}

// R4, R5: what is written into an answer, or into the room behind it, changes
// no other one.
func TestAnswersAreNewMemory(t *testing.T) {
	for _, r := range samples() {
		b := Put(r)
		first, _ := Get(b)
		other := Put(r)
		clear(other[:cap(other)])
		for range 2 {
			got, err := Get(b)
			if err != api.OK || !alike(got, r) || !alike(first, r) || !bytes.Equal(b, plain(r)) || !bytes.Equal(Put(r), b) {
				t.Fatalf("R4: an answer changed: %v, %x", got, b)
			}
			clear(got.Writes[:cap(got.Writes)])
			clear(got.Parts[:cap(got.Parts)])
		}
	}
	for _, l := range lists() {
		b := PutWrites([]byte("ahead"), l)
		other := PutWrites(b[:5], l)
		clear(other[:cap(other)])
		first, _, _ := GetWrites(b[5:])
		second, _, _ := GetWrites(b[5:])
		clear(second[:cap(second)])
		third, n, err := GetWrites(b[5:])
		if !slices.Equal(first, l) || !slices.Equal(third, l) || err != api.OK || n != len(b)-5 || !bytes.Equal(b, plainWrites([]byte("ahead"), l)) {
			t.Errorf("R4: an answer changed: %v, %v", first, third)
		}
	}
}

// anyWrites draws writes of few keys, seldom some that may not be.
func anyWrites(r *rand.Rand) []api.Write {
	var l []api.Write
	n := r.Intn(5)
	if r.Intn(20) == 0 {
		n = most - 1 + r.Intn(4)
	}
	for range n {
		x := w("k"+strconv.Itoa(r.Intn(200)), strings.Repeat("v", r.Intn(4)))
		switch r.Intn(30) {
		case 0:
			x.Value = strings.Repeat("x", long+r.Intn(3)-1)
		case 1:
			x.Value, x.Gone = "x", true
		case 2:
			x.Key = []api.Key{{}, k("\x00a"), k("a\x00b"), k("sixteen bytes...")}[r.Intn(4)]
		case 3, 4, 5, 6, 7, 8:
			x.Value, x.Gone = "", true
		}
		l = append(l, x)
	}
	return l
}

// anyStamp draws a stamp, often a zero one, seldom one that may not be.
func anyStamp(r *rand.Rand) api.Stamp {
	switch r.Intn(30) {
	case 0:
		return at(-1, 0)
	case 1:
		return at(top+int64(r.Intn(2)), 255)
	case 2, 3, 4, 5:
		return at(0, uint8(r.Intn(2)))
	}
	return at(int64(r.Intn(9)), uint8(r.Intn(3)))
}

// anyRecord draws a record that has what its Kind has, or a little else.
func anyRecord(r *rand.Rand) Record {
	one := Record{Kind: r.Intn(6), ID: int64(r.Intn(400)), Snap: anyStamp(r), Stamp: anyStamp(r), Yes: r.Intn(2) == 0}
	if r.Intn(15) > 0 {
		one.ID++
	}
	one.Writes = anyWrites(r)
	for p := range nodes {
		if r.Intn(3) == 0 {
			one.Parts = append(one.Parts, p)
		}
	}
	if r.Intn(30) == 0 {
		one.Parts = append(one.Parts, r.Intn(nodes+2)-1)
	}
	return one
}

// strip takes from a record what its Kind has not, but seldom leaves some.
func strip(r *rand.Rand, one Record) Record {
	not := func(kinds ...int) bool { return !slices.Contains(kinds, one.Kind) && r.Intn(30) > 0 }
	if not(1, 2, 3, 4) {
		one.ID = 0
	}
	if not(1) {
		one.Snap, one.Writes = at(0, 0), nil
	}
	if not(1, 2, 4, 5) || one.Kind == 4 && !one.Yes && r.Intn(30) > 0 {
		one.Stamp = at(0, 0)
	}
	if not(4) {
		one.Yes, one.Parts = false, nil
	}
	if one.Kind == 5 && r.Intn(30) > 0 {
		one.Stamp.Node = 0
	}
	return one
}

// P14.1: any records, held against what is told and written by hand.
func TestAny(t *testing.T) {
	r := rand.New(rand.NewSource(1))
	seen := map[int]int{}
	last := Record{}
	for range 50000 {
		one := strip(r, anyRecord(r))
		good(t, one, !bad(one))
		if !bad(one) {
			seen[one.Kind]++
		} else {
			seen[-one.Kind]++
		}
		if Same(one, last) != alike(one, last) {
			t.Fatalf("P14.1: Same(%v, %v)", one, last)
		}
		last = one
	}
	for kind := 1; kind <= 5; kind++ {
		if seen[kind] < 100 || seen[-kind] < 100 {
			t.Errorf("Kind %d: %d were Good, %d were not", kind, seen[kind], seen[-kind])
		}
	}
}
