package msg

import (
	"bytes"
	"encoding/binary"
	"fmt"
	"math"
	"math/rand"
	"slices"
	"strconv"
	"strings"
	"testing"

	"hourglass/api"
	"hourglass/rec"
	"hourglass/store"
)

const (
	top    = 36028797018963967 // MaxTime, in digits
	long   = 200               // MaxValue
	writes = 16                // MaxWrites
	items  = 200               // MaxKeys
	kinds  = 11
)

func at(time int64, node uint8) api.Stamp { return api.Stamp{Time: time, Node: node} }

// k is the bytes of a text, and noughts behind it, also where that may not be
// a key.
func k(s string) api.Key {
	var x api.Key
	copy(x[:], s)
	return x
}

// ones is the greatest of all sixteen bytes.
func ones() api.Key { return k(strings.Repeat("\xff", 16)) }

func w(s, v string) api.Write { return api.Write{Key: k(s), Value: v} }

func gone(s string) api.Write { return api.Write{Key: k(s), Gone: true} }

func it(s, v string) api.Item { return api.Item{Key: k(s), Value: v} }

// manyWrites is n writes to unlike keys, each third Gone, the others with
// Values of that many bytes.
func manyWrites(n, size int) []api.Write {
	var l []api.Write
	for i := range n {
		l = append(l, w("m"+strconv.Itoa(i), strings.Repeat(strconv.Itoa(i%10), size)))
		if i%3 == 2 {
			l[i].Value, l[i].Gone = "", true
		}
	}
	return l
}

// manyItems is n items of rising keys, with Values of that many bytes.
func manyItems(n, size int) []api.Item {
	var l []api.Item
	for i := range n {
		l = append(l, it("i"+strconv.Itoa(1000+2*i), strings.Repeat(strconv.Itoa(i%10), size)))
	}
	return l
}

// places are the first, a middle and the last of n.
func places(n int) []int { return slices.Compact([]int{0, n / 2, n - 1}) }

// full has all that a message may have, none of it zero.
func full() Message {
	return Message{
		Kind: 6, From: 3, To: 200, ID: 300, Num: -2, At: at(5, 2), Key: k("key"), Until: k("\x00\x01\xff"),
		Writes: []api.Write{w("b", "val"), gone("a"), w("c", "")}, Items: []api.Item{it("d", "x"), it("dd", ""), it("e", "yz")},
		Value: "value", Found: true, Yes: true, Err: 12,
	}
}

// with is a message with one thing of it turned.
func with(m Message, turn func(m *Message)) Message {
	m.Writes, m.Items = slices.Clone(m.Writes), slices.Clone(m.Items)
	turn(&m)
	return m
}

// mayBe tells by hand whether a key may be.
func mayBe(x api.Key) bool {
	s := strings.TrimRight(string(x[:]), "\x00")
	return s != "" && !strings.Contains(s, "\x00")
}

// badWrites tells by hand whether there are some, and Apply does not take
// them.
func badWrites(l []api.Write) bool {
	bad := len(l) > writes
	for i, a := range l {
		bad = bad || !mayBe(a.Key) || len(a.Value) > long || a.Gone && len(a.Value) > 0
		for _, b := range l[:i] {
			bad = bad || a.Key == b.Key
		}
	}
	return bad
}

func badItems(l []api.Item) bool {
	bad := len(l) > items
	for i, a := range l {
		bad = bad || !mayBe(a.Key) || len(a.Value) > long
		bad = bad || i > 0 && string(a.Key[:]) <= string(l[i-1].Key[:])
	}
	return bad
}

func out(v, least, most int64) bool { return v < least || v > most }

// bad tells by hand, field by field, whether one may not be.
func bad(m Message) bool {
	return out(int64(m.Kind), 1, kinds) || out(int64(m.From), 0, 255) || out(int64(m.To), 0, 255) || out(m.ID, 0, math.MaxInt64) ||
		out(m.At.Time, 0, top) || badWrites(m.Writes) || badItems(m.Items) || len(m.Value) > long || out(int64(m.Err), 0, 12)
}

func num(b []byte, l ...uint64) []byte {
	for _, v := range l {
		b = binary.AppendUvarint(b, v)
	}
	return b
}

func nums(l ...uint64) []byte { return num(nil, l...) }

// zig is what a number is written as, of those that may be below 0.
func zig(v int64) uint64 {
	if v < 0 {
		return uint64(-(v+1))*2 + 1
	}
	return uint64(v) * 2
}

// bit is a bit, if it is so.
func bit(yes bool, v uint64) uint64 {
	if yes {
		return v
	}
	return 0
}

// plainWrites writes writes, whether they may be or not.
func plainWrites(b []byte, l []api.Write) []byte {
	b = num(b, uint64(len(l)))
	for _, x := range l {
		b = append(b, x.Key[:]...)
		b = num(b, bit(x.Gone, 1), uint64(len(x.Value)))
		b = append(b, x.Value...)
	}
	return b
}

// plainItems writes items, whether they may be or not.
func plainItems(b []byte, l []api.Item) []byte {
	b = num(b, uint64(len(l)))
	for _, x := range l {
		b = append(b, x.Key[:]...)
		b = num(b, uint64(len(x.Value)))
		b = append(b, x.Value...)
	}
	return b
}

// head is what stands ahead of the Writes.
func head(m Message) []byte {
	b := nums(uint64(m.Kind), uint64(m.From), uint64(m.To), uint64(m.ID), zig(m.Num), uint64(m.At.Time)<<8|uint64(m.At.Node))
	return append(append(b, m.Key[:]...), m.Until[:]...)
}

// tail is what stands behind the Items.
func tail(m Message) []byte {
	b := append(nums(uint64(len(m.Value))), m.Value...)
	return num(b, bit(m.Found, 1)+bit(m.Yes, 2), uint64(m.Err))
}

// plain writes a message, whether it may be or not.
func plain(m Message) []byte {
	return append(plainItems(plainWrites(head(m), m.Writes), m.Items), tail(m)...)
}

// lax reads whatever is there, also numbers with noughts at their end: what it
// told is to be written again, and held against what it read.
type lax struct {
	b  []byte
	ok bool
}

func (x *lax) num() uint64 {
	v, n := binary.Uvarint(x.b)
	if n <= 0 {
		x.ok = false
		return 0
	}
	x.b = x.b[n:]
	return v
}

func (x *lax) some(n uint64) string {
	if n > uint64(len(x.b)) {
		x.ok = false
		return ""
	}
	s := string(x.b[:n])
	x.b = x.b[n:]
	return s
}

func (x *lax) message() Message {
	m := Message{Kind: int(x.num())}
	m.From = int(x.num())
	m.To = int(x.num())
	m.ID = int64(x.num())
	v := x.num()
	if m.Num = int64(v / 2); v%2 == 1 {
		m.Num = -m.Num - 1
	}
	v = x.num()
	m.At = at(int64(v>>8), uint8(v))
	m.Key = k(x.some(16))
	m.Until = k(x.some(16))
	for n := x.num(); x.ok && uint64(len(m.Writes)) < n; {
		y := api.Write{Key: k(x.some(16))}
		y.Gone = x.num() == 1
		y.Value = x.some(x.num())
		m.Writes = append(m.Writes, y)
	}
	for n := x.num(); x.ok && uint64(len(m.Items)) < n; {
		y := api.Item{Key: k(x.some(16))}
		y.Value = x.some(x.num())
		m.Items = append(m.Items, y)
	}
	m.Value = x.some(x.num())
	v = x.num()
	m.Found, m.Yes = v%2 == 1, v/2%2 == 1
	m.Err = api.Errno(x.num())
	return m
}

// plainGet reads a message, and tells whether the bytes are just one that may
// be.
func plainGet(b []byte) (Message, bool) {
	x := lax{b, true}
	m := x.message()
	if !x.ok || bad(m) || !bytes.Equal(plain(m), b) {
		return Message{}, false
	}
	return m, true
}

// alike compares field by field.
func alike(a, b Message) bool {
	return a.Kind == b.Kind && a.From == b.From && a.To == b.To && a.ID == b.ID && a.Num == b.Num && a.At == b.At &&
		a.Key == b.Key && a.Until == b.Until && slices.Equal(a.Writes, b.Writes) && slices.Equal(a.Items, b.Items) &&
		a.Value == b.Value && a.Found == b.Found && a.Yes == b.Yes && a.Err == b.Err
}

func isZero(m Message) bool { return alike(m, Message{}) && m.Writes == nil && m.Items == nil }

// brief is the beginning of a message in words.
func brief(m Message) string {
	s := fmt.Sprintf("%+v", m)
	return s[:min(len(s), 600)]
}

// good fails, unless Good is as it should be, Put writes just that, and Get
// reads it.
func good(t *testing.T, m Message, want bool) {
	t.Helper()
	if bad(m) == want {
		t.Fatalf("by hand: %s: %v; want %v", brief(m), !want, want)
	}
	if got := Good(m); got != want {
		t.Fatalf("P19.1: Good(%s): %v; want %v", brief(m), got, want)
	}
	b := Put(m)
	if !want {
		if len(b) != 0 {
			t.Fatalf("P19.1: Put of one that is not Good, %s: %.300x", brief(m), b)
		}
		return
	}
	if !bytes.Equal(b, plain(m)) {
		t.Fatalf("P19.1: Put(%s): %.300x; want %.300x", brief(m), b, plain(m))
	}
	if got, err := Get(b); err != api.OK || !alike(got, m) || !Same(got, m) || !bytes.Equal(Put(got), b) {
		t.Fatalf("P19.1: Get of Put of %s: %s, %v", brief(m), brief(got), err)
	}
}

// refused fails, unless Get answers EFORM, and zero beside it.
func refused(t *testing.T, what string, b []byte) {
	t.Helper()
	if m, err := Get(b); err != api.EFORM || !isZero(m) {
		t.Fatalf("P19.1: Get of %s, %.300x: %s, %v; want EFORM", what, b, brief(m), err)
	}
	if m, ok := plainGet(b); ok {
		t.Fatalf("by hand: %s, %.300x: %s", what, b, brief(m))
	}
}

// asPlain fails, unless Get tells what the plain one does.
func asPlain(t *testing.T, b []byte) (taken bool) {
	t.Helper()
	m, err := Get(b)
	want, ok := plainGet(b)
	if (err == api.OK) != ok || !ok && (err != api.EFORM || !isZero(m)) || !alike(m, want) {
		t.Fatalf("P19.1: Get(%.300x): %s, %v; want %s, %v", b, brief(m), err, brief(want), ok)
	}
	if ok && (!Good(m) || !bytes.Equal(Put(m), b)) {
		t.Fatalf("P19.1: Put of Get of %.300x: %.300x", b, Put(m))
	}
	return ok
}

// The limits and the errors are as the tests take them.
func TestLimits(t *testing.T) {
	if api.MaxTime != top || api.MaxValue != long || api.MaxWrites != writes || api.MaxKeys != items || api.ESPENT != 12 || api.OK != 0 {
		t.Fatalf("limits: %d, %d, %d, %d", int64(api.MaxTime), api.MaxValue, api.MaxWrites, api.MaxKeys)
	}
}

// P19.1: the chapter's example.
func TestExample(t *testing.T) {
	for _, m := range []Message{full(), {Kind: 1}, {Kind: 11, From: 255, To: 255, ID: math.MaxInt64, Num: math.MinInt64, At: at(top, 255), Key: ones(), Until: ones(), Err: 12}} {
		if got, err := Get(Put(m)); err != api.OK || !alike(got, m) {
			t.Errorf("P19.1: Get of Put of %v: %v, %v", m, got, err)
		}
	}
}

// both holds a turned message, whose other fields are zero, and one whose
// others are not.
func both(t *testing.T, want bool, turn func(m *Message)) {
	t.Helper()
	good(t, with(Message{Kind: 1}, turn), want)
	good(t, with(full(), turn), want)
}

// P19.1: Kinds from 1 to 11, whatever the message has.
func TestGoodKinds(t *testing.T) {
	for kind := -3; kind < 300; kind++ {
		both(t, kind >= 1 && kind <= kinds, func(m *Message) { m.Kind = kind })
	}
	for _, kind := range []int{257, 1<<32 + 1, 1<<32 + 11, 1<<63 - 1, math.MinInt, math.MinInt + 1, math.MaxInt, -1 << 32, 1 - 1<<32} {
		both(t, false, func(m *Message) { m.Kind = kind })
	}
	good(t, Message{}, false)
}

// P19.1: From and To, each alone, and both.
func TestGoodNodes(t *testing.T) {
	for v := -3; v < 300; v++ {
		want := v >= 0 && v <= 255
		both(t, want, func(m *Message) { m.From = v })
		both(t, want, func(m *Message) { m.To = v })
		both(t, want, func(m *Message) { m.From, m.To = v, v })
	}
	for _, v := range []int{-256, -255, 511, 512, 1 << 32, 1<<32 + 1, math.MinInt, math.MaxInt} {
		both(t, false, func(m *Message) { m.From = v })
		both(t, false, func(m *Message) { m.To = v })
	}
}

// P19.1: an ID from 0 on, and any Num.
func TestGoodNumbers(t *testing.T) {
	for _, v := range []int64{0, 1, 2, 63, 64, 127, 128, 300, 1 << 32, 1 << 62, math.MaxInt64 - 1, math.MaxInt64} {
		both(t, true, func(m *Message) { m.ID = v })
		both(t, true, func(m *Message) { m.Num = v })
		both(t, v == 0, func(m *Message) { m.ID = -v })
		both(t, true, func(m *Message) { m.Num = -v })
		both(t, false, func(m *Message) { m.ID = -v - 1 })
		both(t, true, func(m *Message) { m.Num = -v - 1 })
	}
}

// P19.1: which stamps At may be, at each Node.
func TestGoodAt(t *testing.T) {
	for node := range 256 {
		for _, time := range []int64{0, 1, 255, 256, 1 << 40, top - 1, top} {
			both(t, true, func(m *Message) { m.At = at(time, uint8(node)) })
		}
		for _, time := range []int64{-1, top + 1, math.MinInt64, math.MaxInt64, -top, 1 << 56, 1 << 62} {
			both(t, false, func(m *Message) { m.At = at(time, uint8(node)) })
		}
	}
}

// P19.1: Key and Until are any sixteen bytes, also such as no key may be.
func TestGoodKeys(t *testing.T) {
	r := rand.New(rand.NewSource(3))
	l := []api.Key{{}, ones(), k("a"), k("\x00a"), k("a\x00b"), k(strings.Repeat("\x00", 15) + "\x01"), k("sixteen bytes..."), k("\x80\x80"), k("\xff\x00")}
	for range 50 {
		var x api.Key
		r.Read(x[:])
		l = append(l, x)
	}
	for i, x := range l {
		both(t, true, func(m *Message) { m.Key = x })
		both(t, true, func(m *Message) { m.Until = x })
		both(t, true, func(m *Message) { m.Key, m.Until = x, l[(i+1)%len(l)] })
		both(t, true, func(m *Message) { m.Key, m.Until = x, x })
	}
}

// oneWrites are writes, and whether they may be, each alone.
func oneWrites() map[api.Write]bool {
	tooLong := strings.Repeat("x", long+1)
	return map[api.Write]bool{
		w("a", ""): true, w("a", "\x00"): true, w("a", strings.Repeat("x", 127)): true, w("a", strings.Repeat("x", 128)): true, w("a", strings.Repeat("x", long)): true, w("a", strings.Repeat("\xff", long)): true,
		gone("a"): true, w("\x01", "x"): true, w("sixteen bytes...", "x"): true, {Key: ones(), Gone: true}: true,
		{}: false, w("", "x"): false, gone(""): false, w("\x00a", "x"): false, w("a\x00b", "x"): false, w(strings.Repeat("\x00", 15)+"b", "x"): false,
		w("a", tooLong): false, w("a", strings.Repeat("ä", long/2)+"x"): false, {Key: k("a"), Value: "x", Gone: true}: false, {Key: k("a"), Value: "\x00", Gone: true}: false, {Key: k("a"), Value: tooLong, Gone: true}: false,
	}
}

// P19.1: Writes: how many, which, and in what order.
func TestGoodWrites(t *testing.T) {
	both(t, true, func(m *Message) { m.Writes = nil })
	both(t, true, func(m *Message) { m.Writes = []api.Write{} })
	for n := range 3 * writes {
		both(t, n <= writes, func(m *Message) { m.Writes = manyWrites(n, 2) })
		both(t, n <= writes, func(m *Message) {
			m.Writes = manyWrites(n, 1)
			slices.Reverse(m.Writes)
		})
	}
	both(t, true, func(m *Message) { m.Writes = manyWrites(writes, long) })
	for one, want := range oneWrites() {
		for _, n := range []int{1, 3, writes} {
			for _, place := range places(n) {
				both(t, want, func(m *Message) {
					m.Writes = manyWrites(n, 1)
					m.Writes[place] = one
				})
			}
		}
	}
	for _, n := range []int{2, 3, writes} {
		for i := range n {
			for j := range i {
				both(t, false, func(m *Message) {
					m.Writes = manyWrites(n, 1)
					m.Writes[i], m.Writes[j] = w("a", "x"), gone("a")
				})
			}
		}
	}
}

// P19.1: Items: how many, and of which Values.
func TestGoodItems(t *testing.T) {
	both(t, true, func(m *Message) { m.Items = nil })
	both(t, true, func(m *Message) { m.Items = []api.Item{} })
	for _, n := range []int{1, 2, 3, 15, 16, 17, 127, 128, items - 1, items, items + 1, items + 2, 256, 257, 2 * items} {
		for _, size := range []int{0, 1, 127, 128, long} {
			both(t, n <= items, func(m *Message) { m.Items = manyItems(n, size) })
		}
	}
	for _, n := range []int{1, 2, 3, items} {
		for place := range n {
			for v, want := range map[string]bool{"": true, "\x00": true, strings.Repeat("x", long): true, strings.Repeat("\xff", long): true, strings.Repeat("x", long+1): false, strings.Repeat("ä", long/2) + "x": false, strings.Repeat("x", 3*long): false} {
				good(t, with(full(), func(m *Message) {
					m.Items = manyItems(n, 1)
					m.Items[place].Value = v
				}), want)
			}
		}
	}
}

// P19.1: Items' keys: which, and in what order, at each place of the list.
func TestGoodItemsKeys(t *testing.T) {
	for _, n := range []int{1, 2, 3, items} {
		for place := range n {
			turn := func(x api.Key, want bool) {
				good(t, with(full(), func(m *Message) {
					m.Items = manyItems(n, 1)
					m.Items[place].Key = x
				}), want)
			}
			was := manyItems(n, 1)[place].Key
			turn(k(string(was[:5])+"a"), true)
			for _, x := range []api.Key{{}, k("\x00i"), k(string(was[:5]) + "\x00b"), k(string(was[:4]) + strings.Repeat("\x00", 11) + "b")} {
				turn(x, false)
			}
			turn(k("\x01"), place == 0)
			turn(k("a"), place == 0)
			turn(k("z"), place == n-1)
			turn(ones(), place == n-1)
		}
		for i := range n {
			for _, j := range []int{i - 2, i - 1, i + 1, i + 2} {
				if j < 0 || j >= n {
					continue
				}
				good(t, with(full(), func(m *Message) {
					m.Items = manyItems(n, 1)
					m.Items[i].Key = m.Items[j].Key
				}), false)
				good(t, with(full(), func(m *Message) {
					m.Items = manyItems(n, 1)
					m.Items[i], m.Items[j] = m.Items[j], m.Items[i]
				}), false)
			}
		}
	}
	for _, c := range []struct {
		l    []api.Item
		want bool
	}{
		{[]api.Item{it("a", ""), it("aa", "")}, true}, {[]api.Item{it("aa", ""), it("a", "")}, false}, {[]api.Item{it("Z", ""), it("a", "")}, true}, {[]api.Item{it("\x7f", ""), it("\x80", "")}, true}, {[]api.Item{it("\x80", ""), it("\x7f", "")}, false},
		{[]api.Item{it("sixteen bytes..-", ""), it("sixteen bytes...", "")}, true}, {[]api.Item{it("sixteen bytes...", ""), it("sixteen bytes..-", "")}, false}, {[]api.Item{it("a", "x"), it("a", "y")}, false}, {[]api.Item{it("a", "x"), it("b", ""), it("a", "x")}, false},
	} {
		both(t, c.want, func(m *Message) { m.Items = c.l })
	}
}

// P19.1: a Value of any bytes, up to MaxValue.
func TestGoodValue(t *testing.T) {
	for n := range 3 * long {
		both(t, n <= long, func(m *Message) { m.Value = strings.Repeat("v", n) })
	}
	for v, want := range map[string]bool{"\x00": true, "\xff\xfe": true, "ä": true, strings.Repeat("\x80", long): true, strings.Repeat("ä", long/2): true, strings.Repeat("ä", long/2) + "x": false, strings.Repeat("\x00", long+1): false} {
		both(t, want, func(m *Message) { m.Value = v })
	}
}

// P19.1: Found and Yes, each of the four, and Err from 0 to 12.
func TestGoodRest(t *testing.T) {
	for set := range 4 {
		both(t, true, func(m *Message) { m.Found, m.Yes = set%2 == 1, set/2 == 1 })
	}
	for e := -3; e < 300; e++ {
		both(t, e >= 0 && e <= 12, func(m *Message) { m.Err = api.Errno(e) })
	}
	for _, e := range []api.Errno{math.MinInt, math.MaxInt, 1 << 32, 1<<32 + 1, -1 << 32} {
		both(t, false, func(m *Message) { m.Err = e })
	}
}

// P19.1: Put by hand, each field alone: the others are zero.
func TestPutEachAlone(t *testing.T) {
	noughts := func(n int) string { return strings.Repeat("\x00", n) }
	const most = "\xff\xff\xff\xff\xff\xff\xff\xff\xff\x01"
	const most63 = "\xff\xff\xff\xff\xff\xff\xff\xff\x7f"
	for _, c := range []struct {
		m    Message
		want string
	}{
		{Message{Kind: 1}, "\x01" + noughts(42)}, {Message{Kind: 11}, "\x0b" + noughts(42)},
		{Message{Kind: 1, From: 1}, "\x01\x01" + noughts(41)}, {Message{Kind: 1, From: 127}, "\x01\x7f" + noughts(41)}, {Message{Kind: 1, From: 128}, "\x01\x80\x01" + noughts(41)}, {Message{Kind: 1, From: 255}, "\x01\xff\x01" + noughts(41)},
		{Message{Kind: 1, To: 1}, "\x01\x00\x01" + noughts(40)}, {Message{Kind: 1, To: 255}, "\x01\x00\xff\x01" + noughts(40)},
		{Message{Kind: 1, ID: 1}, "\x01\x00\x00\x01" + noughts(39)}, {Message{Kind: 1, ID: 300}, "\x01\x00\x00\xac\x02" + noughts(39)}, {Message{Kind: 1, ID: math.MaxInt64}, "\x01\x00\x00" + most63 + noughts(39)},
		{Message{Kind: 1, Num: 1}, "\x01\x00\x00\x00\x02" + noughts(38)}, {Message{Kind: 1, Num: -1}, "\x01\x00\x00\x00\x01" + noughts(38)}, {Message{Kind: 1, Num: 64}, "\x01\x00\x00\x00\x80\x01" + noughts(38)}, {Message{Kind: 1, Num: -64}, "\x01\x00\x00\x00\x7f" + noughts(38)}, {Message{Kind: 1, Num: -65}, "\x01\x00\x00\x00\x81\x01" + noughts(38)},
		{Message{Kind: 1, Num: math.MaxInt64}, "\x01\x00\x00\x00\xfe" + most[1:] + noughts(38)}, {Message{Kind: 1, Num: math.MinInt64}, "\x01\x00\x00\x00" + most + noughts(38)},
		{Message{Kind: 1, At: at(0, 1)}, "\x01\x00\x00\x00\x00\x01" + noughts(37)}, {Message{Kind: 1, At: at(1, 2)}, "\x01\x00\x00\x00\x00\x82\x02" + noughts(37)}, {Message{Kind: 1, At: at(top, 255)}, "\x01\x00\x00\x00\x00" + most63 + noughts(37)},
		{Message{Kind: 1, Key: k("ab")}, "\x01\x00\x00\x00\x00\x00ab" + noughts(35)}, {Message{Kind: 1, Key: k("sixteen bytes...")}, "\x01\x00\x00\x00\x00\x00sixteen bytes..." + noughts(21)},
		{Message{Kind: 1, Until: k("ab")}, "\x01" + noughts(21) + "ab" + noughts(19)}, {Message{Kind: 1, Until: ones()}, "\x01" + noughts(21) + strings.Repeat("\xff", 16) + noughts(5)},
		{Message{Kind: 1, Writes: []api.Write{w("a", "")}}, "\x01" + noughts(37) + "\x01a" + noughts(15) + "\x00\x00" + noughts(4)}, {Message{Kind: 1, Writes: []api.Write{w("b", "val"), gone("a")}}, "\x01" + noughts(37) + "\x02b" + noughts(15) + "\x00\x03vala" + noughts(15) + "\x01\x00" + noughts(4)},
		{Message{Kind: 1, Items: []api.Item{it("a", "")}}, "\x01" + noughts(38) + "\x01a" + noughts(15) + "\x00" + noughts(3)}, {Message{Kind: 1, Items: []api.Item{it("a", "val"), it("sixteen bytes...", "x")}}, "\x01" + noughts(38) + "\x02a" + noughts(15) + "\x03valsixteen bytes...\x01x" + noughts(3)},
		{Message{Kind: 1, Items: []api.Item{it("a", strings.Repeat("v", long))}}, "\x01" + noughts(38) + "\x01a" + noughts(15) + "\xc8\x01" + strings.Repeat("v", long) + noughts(3)},
		{Message{Kind: 1, Value: "val"}, "\x01" + noughts(39) + "\x03val" + noughts(2)}, {Message{Kind: 1, Value: strings.Repeat("\xff", long)}, "\x01" + noughts(39) + "\xc8\x01" + strings.Repeat("\xff", long) + noughts(2)},
		{Message{Kind: 1, Found: true}, "\x01" + noughts(40) + "\x01\x00"}, {Message{Kind: 1, Yes: true}, "\x01" + noughts(40) + "\x02\x00"}, {Message{Kind: 1, Found: true, Yes: true}, "\x01" + noughts(40) + "\x03\x00"},
		{Message{Kind: 1, Err: 1}, "\x01" + noughts(41) + "\x01"}, {Message{Kind: 1, Err: 12}, "\x01" + noughts(41) + "\x0c"},
	} {
		if got := string(Put(c.m)); got != c.want {
			t.Errorf("P19.1: Put(%v): %x; want %x", c.m, got, c.want)
		}
		if m, err := Get([]byte(c.want)); err != api.OK || !alike(m, c.m) {
			t.Errorf("P19.1: Get(%x): %v, %v; want %v", c.want, m, err, c.m)
		}
		good(t, c.m, true)
	}
}

// P19.1: Put by hand, all fields together.
func TestPutAll(t *testing.T) {
	noughts := strings.Repeat("\x00", 15)
	want := "\x06\x03\xc8\x01\xac\x02\x03\x82\x0akey" + noughts[:13] + "\x00\x01\xff" + noughts[:13] +
		"\x03b" + noughts + "\x00\x03vala" + noughts + "\x01\x00c" + noughts + "\x00\x00" +
		"\x03d" + noughts + "\x01xdd" + noughts[:14] + "\x00e" + noughts + "\x02yz" +
		"\x05value\x03\x0c"
	if got := string(Put(full())); got != want {
		t.Errorf("P19.1: Put(%v): %x; want %x", full(), got, want)
	}
	if m, err := Get([]byte(want)); err != api.OK || !alike(m, full()) {
		t.Errorf("P19.1: Get(%x): %v, %v", want, m, err)
	}
	good(t, full(), true)
	greatest := Message{
		Kind: 11, From: 255, To: 255, ID: math.MaxInt64, Num: math.MinInt64, At: at(top, 255), Key: ones(), Until: ones(),
		Writes: manyWrites(writes, long), Items: manyItems(items, long), Value: strings.Repeat("\xff", long), Found: true, Yes: true, Err: 12,
	}
	good(t, greatest, true)
	if n := len(Put(greatest)); n != 1+2+2+9+10+9+32+1+16*18+11*201+2+200*218+202+1+1 {
		t.Errorf("P19.1: the greatest has %d bytes", n)
	}
}

// samples are messages short and long, of all Kinds.
func samples() []Message {
	l := []Message{full()}
	for kind := 1; kind <= kinds; kind++ {
		l = append(l, Message{Kind: kind})
	}
	for _, turn := range []func(m *Message){
		func(m *Message) { m.Kind, m.From, m.To = 11, 255, 255 }, func(m *Message) { m.ID, m.Num, m.At = math.MaxInt64, math.MinInt64, at(top, 255) },
		func(m *Message) { m.Key, m.Until = ones(), ones() }, func(m *Message) { m.Writes = nil }, func(m *Message) { m.Items = nil }, func(m *Message) { m.Writes, m.Items = nil, nil },
		func(m *Message) { m.Writes = manyWrites(writes, 1) }, func(m *Message) { m.Items = manyItems(3, 130) }, func(m *Message) { m.Items = manyItems(items, 1) },
		func(m *Message) { m.Value = strings.Repeat("v", long) }, func(m *Message) { m.Value, m.Found, m.Yes, m.Err = "", false, false, 0 },
	} {
		l = append(l, with(full(), turn))
	}
	return append(l, Message{Kind: 4, Items: manyItems(1, 0)}, Message{Kind: 5, Writes: manyWrites(1, 0)})
}

// P19.1: each beginning of what Put wrote, and bytes behind it, are no
// message.
func TestGetShorterAndLonger(t *testing.T) {
	for _, m := range samples() {
		b := plain(m)
		for n := range b {
			refused(t, "a beginning", b[:n])
		}
		for v := range 256 {
			refused(t, "one byte more", append(slices.Clone(b), byte(v)))
		}
		refused(t, "it twice", slices.Concat(b, b))
		refused(t, "it behind a byte 0", slices.Concat([]byte{0}, b))
		refused(t, "it without its first byte", b[1:])
	}
	refused(t, "no byte", nil)
	refused(t, "no byte", []byte{})
}

// P19.1: what Put wrote, with one byte turned into each other one.
func TestGetTurned(t *testing.T) {
	seen := map[bool]int{}
	for _, m := range samples() {
		b := plain(m)
		for i, was := range b {
			for v := range 256 {
				if len(b) > 400 && v > 2 && v != int(was^1) && v != int(was^128) {
					continue
				}
				if b[i] = byte(v); b[i] != was {
					seen[asPlain(t, b)]++
				}
			}
			b[i] = was
		}
	}
	if seen[true] < 1000 || seen[false] < 1000 {
		t.Errorf("turned: %v", seen)
	}
}

// P19.1: what Put wrote, with any byte taken out, put in, or moved.
func TestGetShifted(t *testing.T) {
	for _, m := range samples() {
		b := plain(m)
		for i := range b {
			if len(b) > 400 && i%7 > 0 {
				continue
			}
			asPlain(t, slices.Concat(b[:i], b[i+1:]))
			for _, v := range []byte{0, 1, 2, 127, 128, 129, 255} {
				asPlain(t, slices.Concat(b[:i], []byte{v}, b[i:]))
			}
			asPlain(t, slices.Concat(b[i:], b[:i]))
		}
	}
}

// stretch is a number with a nought behind it that it needs not.
func stretch(v uint64) []byte {
	b := nums(v)
	b[len(b)-1] |= 128
	return append(b, 0)
}

// piece is a number, or bytes.
type piece struct {
	v uint64
	b string
}

// joined writes pieces; that at a place is another one, if it is not below 0.
func joined(l []piece, place int, other []byte) []byte {
	var b []byte
	for i, p := range l {
		switch {
		case i == place:
			b = append(b, other...)
		case p.b != "":
			b = append(b, p.b...)
		default:
			b = num(b, p.v)
		}
	}
	return b
}

// The places of the numbers of pieces.
const (
	kindPlace, fromPlace, toPlace, idPlace, numPlace, atPlace = 0, 1, 2, 3, 4, 5
	writesPlace, gonePlace, writeTextPlace                    = 8, 10, 11
	itemsPlace, itemTextPlace                                 = 13, 15
	textPlace, flagsPlace, errPlace                           = 17, 19, 20
)

// pieces are those of one message.
func pieces() []piece {
	key := func(s string) piece {
		x := k(s)
		return piece{b: string(x[:])}
	}
	return []piece{
		{v: 6}, {v: 3}, {v: 200}, {v: 300}, {v: 3}, {v: 1282}, key("key"), key("until"),
		{v: 1}, key("a"), {v: 0}, {v: 3}, {b: "val"},
		{v: 1}, key("b"), {v: 2}, {b: "yz"},
		{v: 5}, {b: "value"}, {v: 3}, {v: 12},
	}
}

// P19.1: a number with more bytes than it needs, wherever it stands.
func TestGetLongNumbers(t *testing.T) {
	l := pieces()
	if m, err := Get(joined(l, -1, nil)); err != api.OK || m.At != at(5, 2) || m.Num != -2 || m.Err != 12 {
		t.Fatalf("P19.1: %v, %v", m, err)
	}
	for i, p := range l {
		if p.b == "" {
			for _, v := range []uint64{p.v, 0, 1, 128} {
				refused(t, "a long number at place "+strconv.Itoa(i), joined(l, i, stretch(v)))
			}
			refused(t, "a number of eleven bytes at place "+strconv.Itoa(i), joined(l, i, []byte("\x80\x80\x80\x80\x80\x80\x80\x80\x80\x80\x01")))
			refused(t, "a number of over 64 bits at place "+strconv.Itoa(i), joined(l, i, []byte("\x81\x80\x80\x80\x80\x80\x80\x80\x80\x02")))
		}
	}
}

// P19.1: numbers past what may be, wherever they stand; also such as are alike
// in their lowest bits.
func TestGetGreatNumbers(t *testing.T) {
	const big = math.MaxUint64
	l := pieces()
	for place, wrong := range map[int][]uint64{
		kindPlace: {0, 12, 13, 127, 128, 256, 256 + 6, 1<<32 + 6, 1<<63 + 6, big - 5, big},
		fromPlace: {256, 257, 259, 1<<32 + 3, 1 << 63, 1<<63 + 3, big}, toPlace: {256, 257, 456, 1<<32 + 200, 1 << 63, 1<<63 + 200, big},
		idPlace: {1 << 63, 1<<63 + 1, 1<<63 + 300, big - 1, big}, atPlace: {1 << 63, 1<<63 + 1, 1<<63 + 1282, big},
		gonePlace: {2, 3, 127, 128, 256, 257, 1 << 32, 1 << 63, big}, flagsPlace: {4, 5, 7, 8, 127, 128, 131, 256, 259, 1 << 32, 1<<32 + 3, 1<<63 + 3, big},
		errPlace:       {13, 14, 127, 128, 256, 268, 1 << 32, 1<<32 + 12, 1 << 63, 1<<63 + 12, big},
		writesPlace:    {0, 2, 16, 17, 128, 1 << 32, 1<<32 + 1, 1<<63 + 1, big},
		writeTextPlace: {0, 1, 2, 4, 200, 201, 1000, 1<<32 + 3, 1<<63 + 3, big},
		itemsPlace:     {0, 2, 200, 201, 1<<32 + 1, 1<<63 + 1, big},
		itemTextPlace:  {0, 1, 3, 200, 201, 1000, 1<<32 + 2, 1<<63 + 2, big},
		textPlace:      {0, 4, 6, 7, 8, 200, 201, 1000, 1<<32 + 5, 1<<63 + 5, big},
	} {
		for _, v := range wrong {
			refused(t, "the number "+strconv.FormatUint(v, 10)+" at place "+strconv.Itoa(place), joined(l, place, nums(v)))
		}
	}
	for _, v := range []uint64{0, 1, 2, 1 << 62, 1 << 63, 1<<63 + 1, big - 1, big} {
		if !asPlain(t, joined(l, numPlace, nums(v))) {
			t.Errorf("P19.1: a Num of %d is refused", v)
		}
	}
}

// P19.1: counts greater than what follows, with nothing behind that could be
// read.
func TestGetCounts(t *testing.T) {
	for _, v := range []uint64{1, 2, 16, 17, 200, 201, 1 << 31, 1 << 32, 1 << 62, 1 << 63, math.MaxUint64} {
		refused(t, "a count of Writes", num(head(full()), v))
		refused(t, "a count of Items", num(plainWrites(head(full()), nil), v))
		refused(t, "a count of Items behind Writes", num(plainWrites(head(full()), full().Writes), v))
		refused(t, "a Value's bytes", num(plainItems(plainWrites(head(full()), nil), full().Items), v))
		x := k("a")
		refused(t, "a Write's Value's bytes", num(append(num(head(full()), 1), x[:]...), 0, v))
		refused(t, "an Item's Value's bytes", num(append(num(head(full()), 0, 1), x[:]...), v))
	}
}

// P19.1: what is written in the right form, but is no Good message.
func TestGetNotGood(t *testing.T) {
	tooLong := strings.Repeat("x", long+1)
	for what, turn := range map[string]func(m *Message){
		"Kind 0": func(m *Message) { m.Kind = 0 }, "Kind 12": func(m *Message) { m.Kind = 12 }, "From 256": func(m *Message) { m.From = 256 }, "To 256": func(m *Message) { m.To = 256 }, "ID -1": func(m *Message) { m.ID = -1 }, "the least ID": func(m *Message) { m.ID = math.MinInt64 },
		"Err 13": func(m *Message) { m.Err = 13 }, "a long Value": func(m *Message) { m.Value = tooLong }, "a Time too great": func(m *Message) { m.At = at(top+1, 0) },
		"Items whose keys are alike":      func(m *Message) { m.Items[1].Key = m.Items[0].Key },
		"Items whose last keys are alike": func(m *Message) { m.Items[1].Key = m.Items[2].Key },
		"Items whose keys fall":           func(m *Message) { slices.Reverse(m.Items) },
		"Items whose last keys fall":      func(m *Message) { m.Items[1], m.Items[2] = m.Items[2], m.Items[1] },
		"an Item of no key":               func(m *Message) { m.Items[0].Key = k("") },
		"an Item whose key may not be":    func(m *Message) { m.Items[1].Key = k("dd\x00d") },
		"an Item's long Value":            func(m *Message) { m.Items[2].Value = tooLong },
		"too many Items":                  func(m *Message) { m.Items = manyItems(items+1, 0) },
		"far too many Items":              func(m *Message) { m.Items = manyItems(300, 2) },
		"Writes to one key":               func(m *Message) { m.Writes[0].Key = m.Writes[2].Key },
		"a Write of no key":               func(m *Message) { m.Writes[0].Key = k("") },
		"a Write whose key may not be":    func(m *Message) { m.Writes[2].Key = k("\x00c") },
		"a Gone Write with a Value":       func(m *Message) { m.Writes[1].Value = "x" },
		"a Write's long Value":            func(m *Message) { m.Writes[2].Value = tooLong },
		"too many Writes":                 func(m *Message) { m.Writes = manyWrites(writes+1, 0) },
		"far too many Writes":             func(m *Message) { m.Writes = manyWrites(100, 2) },
	} {
		refused(t, what, plain(with(full(), turn)))
	}
	for _, s := range []string{"hello", strings.Repeat("\x00", 43), strings.Repeat("\xff", 100), strings.Repeat("\x01", 100), strings.Repeat("\x00", 1000)} {
		refused(t, "other bytes", []byte(s))
	}
}

// P19.1: a message's Writes are those that store's Apply takes, but for none.
func TestGoodAsApply(t *testing.T) {
	r := rand.New(rand.NewSource(12))
	seen := map[bool]int{}
	for range 5000 {
		l := anyWrites(r)
		taken := len(l) == 0 || store.New().Apply(at(1, 0), l...) == api.OK
		good(t, with(full(), func(m *Message) { m.Writes = l }), taken)
		seen[taken]++
	}
	if seen[true] < 100 || seen[false] < 100 {
		t.Errorf("drawn: %v", seen)
	}
}

// P19.1: the Writes are as rec's PutWrites writes them.
func TestWritesAsRec(t *testing.T) {
	for n := range writes + 1 {
		m := with(full(), func(m *Message) { m.Writes = manyWrites(n, 3) })
		want := slices.Concat(rec.PutWrites(head(m), m.Writes), plainItems(nil, m.Items), tail(m))
		if got := Put(m); !bytes.Equal(got, want) {
			t.Errorf("P19.1: Put of %d writes: %x; want %x", n, got, want)
		}
	}
}

// P19.1: Same of all that are alike, also with nil and empty lists.
func TestSameAlike(t *testing.T) {
	all := append(samples(), Message{}, Message{Kind: -1, From: -1, To: 999, ID: -1, At: at(top+1, 0), Writes: []api.Write{{}, {}}, Items: []api.Item{{}, {}}, Err: -1}, Message{ID: 5, Writes: manyWrites(40, 300), Items: manyItems(300, 300)})
	for i, a := range all {
		for j, b := range all {
			copied := b
			copied.Writes, copied.Items = append([]api.Write{}, b.Writes...), append([]api.Item{}, b.Items...)
			if Same(a, b) != (i == j) || Same(a, copied) != (i == j) || Same(copied, a) != (i == j) {
				t.Errorf("P19.1: Same(%s, %s)", brief(a), brief(b))
			}
		}
	}
	for _, c := range [][2]Message{{{}, {Writes: []api.Write{}}}, {{}, {Items: []api.Item{}}}, {{Writes: []api.Write{}}, {Items: []api.Item{}}}, {{Kind: 9, Writes: make([]api.Write, 0, 5)}, {Kind: 9}}, {{Kind: 9, Items: make([]api.Item, 0, 5)}, {Kind: 9}}} {
		if !Same(c[0], c[1]) || !Same(c[1], c[0]) {
			t.Errorf("P19.1: nil and empty lists are not alike: %v", c)
		}
	}
}

// turns turn one field of a message, whatever it has.
func turns() map[string]func(m *Message) {
	return map[string]func(m *Message){
		"Kind": func(m *Message) { m.Kind++ }, "Kind below": func(m *Message) { m.Kind = -1 - m.Kind }, "From": func(m *Message) { m.From++ }, "From, 256 more": func(m *Message) { m.From += 256 }, "To": func(m *Message) { m.To++ }, "To, 256 more": func(m *Message) { m.To += 256 },
		"ID": func(m *Message) { m.ID++ }, "ID, its top": func(m *Message) { m.ID ^= math.MinInt64 }, "Num": func(m *Message) { m.Num++ }, "Num, its sign": func(m *Message) { m.Num ^= math.MinInt64 },
		"At's Time": func(m *Message) { m.At.Time++ }, "At's Node": func(m *Message) { m.At.Node++ },
		"Key's first byte": func(m *Message) { m.Key[0]++ }, "Key's last byte": func(m *Message) { m.Key[15]++ }, "Until's first byte": func(m *Message) { m.Until[0]++ }, "Until's last byte": func(m *Message) { m.Until[15]++ },
		"one write more": func(m *Message) { m.Writes = append(m.Writes, w("z", "")) }, "a zero write more": func(m *Message) { m.Writes = append(m.Writes, api.Write{}) },
		"one item more": func(m *Message) { m.Items = append(m.Items, it("z", "")) }, "a zero item more": func(m *Message) { m.Items = append(m.Items, api.Item{}) },
		"a longer Value": func(m *Message) { m.Value += "\x00" }, "another Value": func(m *Message) { m.Value = "other" + m.Value },
		"Found": func(m *Message) { m.Found = !m.Found }, "Yes": func(m *Message) { m.Yes = !m.Yes }, "Err": func(m *Message) { m.Err++ }, "Err below": func(m *Message) { m.Err = -1 - m.Err },
	}
}

// turnsOfFull turn what full has.
func turnsOfFull() map[string]func(m *Message) {
	return map[string]func(m *Message){
		"no writes": func(m *Message) { m.Writes = nil }, "one write less": func(m *Message) { m.Writes = m.Writes[:2] }, "the first write less": func(m *Message) { m.Writes = m.Writes[1:] },
		"the first key": func(m *Message) { m.Writes[0].Key = k("bb") }, "the last key": func(m *Message) { m.Writes[2].Key[15] = 1 }, "the first Value": func(m *Message) { m.Writes[0].Value = "vam" }, "the last Value": func(m *Message) { m.Writes[2].Value = "\x00" },
		"the first one Gone": func(m *Message) { m.Writes[0].Gone = true }, "the one that is Gone there": func(m *Message) { m.Writes[1].Gone = false }, "writes in two places": func(m *Message) { m.Writes[0], m.Writes[1] = m.Writes[1], m.Writes[0] },
		"no items": func(m *Message) { m.Items = nil }, "one item less": func(m *Message) { m.Items = m.Items[:2] }, "the first item less": func(m *Message) { m.Items = m.Items[1:] },
		"the first item's key": func(m *Message) { m.Items[0].Key = k("c") }, "the last item's key": func(m *Message) { m.Items[2].Key[15] = 1 }, "the first item's Value": func(m *Message) { m.Items[0].Value = "y" }, "the last item's Value": func(m *Message) { m.Items[2].Value = "yz\x00" },
		"items in two places": func(m *Message) { m.Items[0], m.Items[1] = m.Items[1], m.Items[0] }, "no Value": func(m *Message) { m.Value = "" },
		"From and To in each other's place": func(m *Message) { m.From, m.To = m.To, m.From }, "Key and Until in each other's place": func(m *Message) { m.Key, m.Until = m.Until, m.Key }, "ID and Num in each other's place": func(m *Message) { m.ID, m.Num = m.Num, m.ID },
	}
}

// P19.1: Same of two that are unlike in one field alone, whether they are Good
// or not.
func TestSameUnlike(t *testing.T) {
	unlike := func(what string, base Message, turn func(m *Message)) {
		other := with(base, turn)
		if Same(base, other) || Same(other, base) || !Same(base, with(base, func(*Message) {})) || !Same(other, with(other, func(*Message) {})) {
			t.Errorf("P19.1: Same of %v with %s: %v", base, what, other)
		}
	}
	for what, turn := range turns() {
		for _, base := range []Message{full(), {}, {Kind: 1}, {Kind: 20, From: -3, ID: -9, At: at(-9, 0), Writes: manyWrites(30, 1), Items: manyItems(2, 1)}, with(full(), func(m *Message) { m.Found = false }), with(full(), func(m *Message) { m.Yes = false })} {
			unlike(what, base, turn)
		}
	}
	for what, turn := range turnsOfFull() {
		unlike(what, full(), turn)
	}
	found, yes := with(full(), func(m *Message) { m.Yes = false }), with(full(), func(m *Message) { m.Found = false })
	if Same(found, yes) || Same(yes, found) {
		t.Errorf("P19.1: Found is as Yes")
	}
}

// R4: the lists that are handed in are as they were, spare room included, and
// what is written into them later changes no answer.
func TestArgumentsAreAsTheyWere(t *testing.T) {
	roomW := []api.Write{w("z", "z"), gone("y"), w("x", ""), w("spare", "s"), {Value: "spare", Gone: true}}
	roomI := []api.Item{it("a", "1"), it("b", ""), it("c", "3"), it("spare", "s"), {Value: "spare"}}
	wasW, wasI := slices.Clone(roomW), slices.Clone(roomI)
	one := with(full(), func(m *Message) {})
	one.Writes, one.Items = roomW[:3], roomI[:3]
	wrong := one
	wrong.Writes, wrong.Items = roomW[:5], roomI[:5]
	none := Message{Kind: 1, Writes: roomW[:0], Items: roomI[:0]}
	b := Put(one)
	for _, m := range []Message{one, wrong, none} {
		Good(m)
		Put(m)
		Same(m, m)
		Same(m, one)
	}
	if !slices.Equal(roomW, wasW) || !slices.Equal(roomI, wasI) {
		t.Fatalf("R4: what was handed in is changed: %v, %v", roomW, roomI)
	}
	clear(roomW)
	clear(roomI)
	one.Writes, one.Items = wasW[:3], wasI[:3]
	if !bytes.Equal(b, plain(one)) {
		t.Errorf("R4: Put hangs on its argument: %x", b)
	}
}

// R4: the bytes that are read are as they were, and are not kept.
func TestBytesAreAsTheyWere(t *testing.T) {
	for _, m := range samples() {
		b := append(plain(m), "spare room"...)
		was := slices.Clone(b)
		got, err := Get(b[:len(b)-10])
		more, errMore := Get(b)
		if !bytes.Equal(b, was) {
			t.Fatalf("R4: the bytes were changed: %x; they were %x", b, was)
		}
		for i := range b {
			b[i] = 'o'
		}
		if err != api.OK || !alike(got, m) || errMore != api.EFORM || !isZero(more) {
			t.Errorf("R4: what was read hangs on the bytes: %v", got)
		}
	}
}

// R4, R5: what is written into an answer, or into the room behind it, changes
// no other one.
func TestAnswersAreNewMemory(t *testing.T) {
	for _, m := range samples() {
		b := Put(m)
		first, _ := Get(b)
		other := Put(m)
		clear(other[:cap(other)])
		for range 2 {
			got, err := Get(b)
			if err != api.OK || !alike(got, m) || !alike(first, m) || !bytes.Equal(b, plain(m)) || !bytes.Equal(Put(m), b) {
				t.Fatalf("R4: an answer changed: %v, %x", got, b)
			}
			clear(got.Writes[:cap(got.Writes)])
			clear(got.Items[:cap(got.Items)])
		}
	}
}

// anyWrites draws writes of few keys, seldom some that may not be.
func anyWrites(r *rand.Rand) []api.Write {
	var l []api.Write
	n := r.Intn(5)
	if r.Intn(20) == 0 {
		n = writes - 1 + r.Intn(4)
	}
	for range n {
		x := w("k"+strconv.Itoa(r.Intn(200)), strings.Repeat("v", r.Intn(4)))
		switch r.Intn(60) {
		case 0:
			x.Value = strings.Repeat("x", long+r.Intn(3)-1)
		case 1:
			x.Value, x.Gone = "x", true
		case 2:
			x.Key = []api.Key{{}, k("\x00a"), k("a\x00b"), k("sixteen bytes...")}[r.Intn(4)]
		case 3, 4, 5, 6, 7, 8:
			x.Value, x.Gone = "", true
		}
		l = append(l, x)
	}
	return l
}

// anyItems draws items of few keys, seldom some that may not be.
func anyItems(r *rand.Rand) []api.Item {
	n := r.Intn(6)
	if r.Intn(40) == 0 {
		n = items - 1 + r.Intn(3)
	}
	l := manyItems(n, r.Intn(4))
	for i := range l {
		switch r.Intn(60) {
		case 0:
			l[i].Value = strings.Repeat("\xff", long+r.Intn(3)-1)
		case 1:
			l[i].Key = []api.Key{{}, k("\x00a"), k("i1\x00b"), k("sixteen bytes...")}[r.Intn(4)]
		case 2:
			l[i].Key = l[r.Intn(n)].Key
		}
	}
	return l
}

// seldom is v, but now and then one of others.
func seldom[T any](r *rand.Rand, v T, others ...T) T {
	if r.Intn(40) == 0 {
		return others[r.Intn(len(others))]
	}
	return v
}

// anyKey draws sixteen bytes, of few that are not 0.
func anyKey(r *rand.Rand) api.Key {
	var x api.Key
	for range r.Intn(3) {
		x[r.Intn(16)] = byte(r.Intn(256))
	}
	return x
}

// anyMessage draws one.
func anyMessage(r *rand.Rand) Message {
	m := Message{Kind: 1 + r.Intn(kinds), From: r.Intn(256), To: r.Intn(256), ID: r.Int63() >> r.Intn(63), Num: int64(r.Uint64()) >> r.Intn(64)}
	m.Kind = seldom(r, m.Kind, 0, 12, -1, 300)
	m.From, m.To = seldom(r, m.From, -1, 256, 1000), seldom(r, m.To, -1, 256, 1000)
	m.ID = seldom(r, m.ID, -1, math.MinInt64, math.MaxInt64)
	m.At = seldom(r, at(r.Int63()>>(8+r.Intn(55)), uint8(r.Intn(256))), at(-1, 0), at(top+1, 255), at(top, 255), at(math.MinInt64, 1))
	m.Key, m.Until = anyKey(r), anyKey(r)
	m.Writes, m.Items = anyWrites(r), anyItems(r)
	m.Value = seldom(r, strings.Repeat("v", r.Intn(5)), strings.Repeat("\x80", long), strings.Repeat("x", long+1))
	m.Found, m.Yes = r.Intn(2) == 0, r.Intn(2) == 0
	m.Err = seldom(r, api.Errno(r.Intn(13)), -1, 13, 255)
	return m
}

// P19.1: any messages, held against what is told and written by hand.
func TestAny(t *testing.T) {
	r := rand.New(rand.NewSource(1))
	seen := map[int]int{}
	last := Message{}
	for range 20000 {
		one := anyMessage(r)
		good(t, one, !bad(one))
		if bad(one) {
			seen[0]++
		} else {
			seen[one.Kind]++
		}
		if Same(one, last) != alike(one, last) || !Same(one, one) {
			t.Fatalf("P19.1: Same(%v, %v)", one, last)
		}
		last = one
	}
	for kind := range kinds + 1 {
		if seen[kind] < 100 {
			t.Errorf("Kind %d (0: not Good): %d were drawn", kind, seen[kind])
		}
	}
}

// P19.1: two Good ones whose Put is alike are Same, and others are not.
func TestAnyTwo(t *testing.T) {
	r := rand.New(rand.NewSource(2))
	seen := map[bool]int{}
	few := func() Message {
		m := Message{Kind: 1 + r.Intn(2), From: r.Intn(2), To: r.Intn(2), Num: int64(r.Intn(2) - 1), Found: r.Intn(2) == 0, Yes: r.Intn(2) == 0}
		if r.Intn(2) == 0 {
			m.Writes = []api.Write{{Key: k("a"), Gone: r.Intn(2) == 0}}
		}
		if r.Intn(2) == 0 {
			m.Items = []api.Item{it("a", strings.Repeat("x", r.Intn(2)))}
		}
		return m
	}
	for range 50000 {
		a, b := few(), few()
		same := Same(a, b)
		if same != bytes.Equal(Put(a), Put(b)) {
			t.Fatalf("P19.1: Same(%v, %v): %v; Put: %x, %x", a, b, same, Put(a), Put(b))
		}
		seen[same]++
	}
	if seen[true] < 100 || seen[false] < 100 {
		t.Errorf("drawn: %v", seen)
	}
}

// P19.1: any bytes, held against a reader that writes again what it read.
func TestGetAny(t *testing.T) {
	r := rand.New(rand.NewSource(14))
	taken := 0
	for range 200000 {
		b := make([]byte, 43+r.Intn(3)*r.Intn(30))
		for range r.Intn(8) {
			b[r.Intn(len(b))] = byte(r.Intn(256) >> r.Intn(8))
		}
		b[0] = byte(r.Intn(13))
		if asPlain(t, b) {
			taken++
		}
	}
	if taken < 1000 {
		t.Errorf("only %d were taken", taken)
	}
}
