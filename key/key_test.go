package key

import (
	"math/rand"
	"slices"
	"strings"
	"testing"
	"time"

	"hourglass/api"
)

// sixteen is a key with no byte 0 at all.
var sixteen = api.Key{'0', '1', '2', '3', '4', '5', '6', '7', '8', '9', 'a', 'b', 'c', 'd', 'e', 'f'}

// of makes a key of a text that may be one.
func of(t *testing.T, s string) api.Key {
	t.Helper()
	k, err := Of(s)
	if err != api.OK {
		t.Fatalf("P10.1: Of(%q): %v", s, err)
	}
	return k
}

// wrong is keys that may not be.
func wrong() []api.Key {
	return []api.Key{
		{},
		{0, 1},
		{0, 'a', 'b'},
		{15: 1},
		{'a', 0, 'b'},
		{'a', 15: 'b'},
		{'a', 0, 0, 255},
		{0, 2, 3, 4, 5, 6, 7, 8, 9, 10, 11, 12, 13, 14, 15, 16},
		{1, 2, 3, 4, 5, 6, 7, 8, 9, 10, 11, 12, 13, 14, 0, 16},
	}
}

// P10.1: Of lays the bytes of a text into a key, noughts behind them.
func TestOf(t *testing.T) {
	for _, c := range []struct {
		s    string
		want api.Key
	}{
		{"a", api.Key{'a'}},
		{"ab", api.Key{'a', 'b'}},
		{" ", api.Key{' '}},
		{"\x01", api.Key{1}},
		{"\xff", api.Key{255}},
		{"\x01\xff", api.Key{1, 255}},
		{"\x80\x7f\xc3", api.Key{128, 127, 0xc3}},
		{"ä", api.Key{0xc3, 0xa4}},
		{"0123456789abcde", api.Key{'0', '1', '2', '3', '4', '5', '6', '7', '8', '9', 'a', 'b', 'c', 'd', 'e'}},
		{"0123456789abcdef", sixteen},
		{"0", api.Key{'0'}},
	} {
		if k, err := Of(c.s); k != c.want || err != api.OK {
			t.Errorf("P10.1: Of(%q): %v, %v", c.s, k, err)
		}
	}
}

// P10.1: no byte, more than sixteen or a byte 0 is EARG; R2: beside it stands
// the key of noughts.
func TestOfWrong(t *testing.T) {
	for _, s := range []string{
		"",
		"0123456789abcdefg",
		strings.Repeat("x", 17),
		strings.Repeat("x", 1<<20),
		strings.Repeat("\x00", 17),
		"\x00",
		"\x00a",
		"a\x00",
		"a\x00b",
		"\x00\x00",
		strings.Repeat("\x00", 16),
		"0123456789abcde\x00",
		"0123456789abcdef\x00",
		"ääääääää\xff",
	} {
		if k, err := Of(s); k != (api.Key{}) || err != api.EARG {
			t.Errorf("P10.1: Of(%.20q): %v, %v", s, k, err)
		}
	}
}

// P10.1: each byte but 0, alone and at each place, is as good as another.
func TestOfEveryByte(t *testing.T) {
	for c := range 256 {
		for at := range 16 {
			b := []byte("xxxxxxxxxxxxxxxx")[:at+1]
			b[at] = byte(c)
			k, err := Of(string(b))
			if c == 0 {
				if k != (api.Key{}) || err != api.EARG {
					t.Errorf("P10.1: a byte 0 at %d: %v, %v", at, k, err)
				}
				continue
			}
			if err != api.OK || string(k[:at+1]) != string(b) || !Good(k) || Text(k) != string(b) {
				t.Errorf("P10.1: a byte %d at %d: %v, %v", c, at, k, err)
			}
		}
	}
}

// P10.1: Text tells what Of was given; Good tells that it may be.
func TestTextBack(t *testing.T) {
	for _, s := range []string{"a", "ab", "\x01", "\xff", "\x80\x81", "ä", "0123456789abcde", "0123456789abcdef", strings.Repeat("\xff", 16), strings.Repeat("\x01", 16)} {
		k := of(t, s)
		if Text(k) != s || !Good(k) {
			t.Errorf("P10.1: Text of Of(%q): %q, %v", s, Text(k), Good(k))
		}
	}
	if Text(sixteen) != "0123456789abcdef" || !Good(sixteen) {
		t.Errorf("P10.1: of sixteen bytes other than 0: %q, %v", Text(sixteen), Good(sixteen))
	}
}

// P10.1: a key that may not be has no text.
func TestTextWrong(t *testing.T) {
	for _, k := range wrong() {
		if Text(k) != "" || Good(k) {
			t.Errorf("P10.1: %v: %q, %v", k, Text(k), Good(k))
		}
	}
}

// P10.1: for all ways to set noughts among sixteen bytes, a key may be, if the
// noughts are all at the end and not all there is; then Of(Text(k)) is k.
func TestEveryShape(t *testing.T) {
	good := 0
	for shape := range 1 << 16 {
		var k api.Key
		for i := range k {
			if shape>>i&1 == 1 {
				k[i] = byte(i*16 + 1)
			}
		}
		// The bits are low ones in a row, if one more carries through all.
		want := shape != 0 && shape&(shape+1) == 0
		if Good(k) != want {
			t.Fatalf("P10.1: Good(%v): %v", k, !want)
		}
		if !want {
			if Text(k) != "" {
				t.Fatalf("P10.1: Text(%v): %q", k, Text(k))
			}
			continue
		}
		good++
		if back, err := Of(Text(k)); back != k || err != api.OK {
			t.Fatalf("P10.1: Of(Text(%v)): %v, %v", k, back, err)
		}
	}
	if good != 16 {
		t.Errorf("P10.1: %d shapes may be", good)
	}
}

// rising is keys of which each is below the next, those that may not be too.
func rising(t *testing.T) []api.Key {
	last := sixteen
	last[15]++
	return []api.Key{
		{},
		{15: 1},
		{15: 255},
		{0, 1},
		of(t, "\x01"),
		{1, 15: 1},
		of(t, "\x01\x01"),
		of(t, "\x02"),
		sixteen,
		last,
		of(t, "a"),
		{'a', 0, 'b'},
		of(t, "a\x01"),
		of(t, "aa"),
		of(t, "ab"),
		of(t, "b"),
		of(t, "\x7f"),
		of(t, "\x7f\xff"),
		of(t, "\x80"),
		of(t, "\xff"),
		{255, 15: 255},
		of(t, strings.Repeat("\xff", 15)),
		of(t, strings.Repeat("\xff", 15)+"\x01"),
		of(t, strings.Repeat("\xff", 16)),
	}
}

// P10.1: Cmp goes by the bytes, the first that differs, as numbers from 0 to
// 255; and Cmp(b, a) is the other way about.
func TestCmp(t *testing.T) {
	l := rising(t)
	for i, a := range l {
		for j, b := range l {
			want := 0
			if i < j {
				want = -1
			} else if i > j {
				want = 1
			}
			if got := Cmp(a, b); got != want || Cmp(b, a) != -want {
				t.Errorf("P10.1: Cmp(%v, %v): %d and back %d", a, b, got, Cmp(b, a))
			}
		}
	}
	if Cmp(of(t, "ab"), of(t, "b")) != -1 {
		t.Errorf("P10.1: the chapter's example")
	}
}

// P10.1: a byte at each place counts, and those behind it do not.
func TestCmpEveryPlace(t *testing.T) {
	for at := range 16 {
		for _, c := range []struct{ low, high byte }{{0, 1}, {127, 128}, {1, 255}, {254, 255}} {
			a, b := sixteen, sixteen
			a[at], b[at] = c.low, c.high
			for i := at + 1; i < 16; i++ {
				a[i], b[i] = 255, 0
			}
			if Cmp(a, b) != -1 || Cmp(b, a) != 1 || Cmp(a, a) != 0 {
				t.Errorf("P10.1: bytes %d and %d at %d: %d, %d", c.low, c.high, at, Cmp(a, b), Cmp(b, a))
			}
		}
	}
}

// P10.1: Within: not below from, and below to; a to of noughts is no end.
func TestWithin(t *testing.T) {
	none, a, b, c := api.Key{}, of(t, "a"), of(t, "b"), of(t, "c")
	for _, x := range []struct {
		k, from, to api.Key
		want        bool
	}{
		{b, a, c, true},
		{a, a, c, true},
		{c, a, c, false},
		{a, b, c, false},
		{c, a, b, false},
		{b, b, b, false},
		{b, c, a, false},
		{a, c, a, false},
		{c, c, a, false},
		{b, a, none, true},
		{b, b, none, true},
		{a, b, none, false},
		{none, a, none, false},
		{b, none, none, true},
		{b, none, c, true},
		{c, none, b, false},
		{none, none, none, true},
		{none, none, a, true},
		{none, a, b, false},
		{a, none, api.Key{15: 1}, false},
		{none, none, api.Key{15: 1}, true},
		{api.Key{15: 1}, none, api.Key{15: 2}, true},
		{api.Key{'a', 15: 1}, a, b, true},
		{of(t, "ab"), a, b, true},
		{of(t, strings.Repeat("\xff", 16)), a, none, true},
	} {
		if Within(x.k, x.from, x.to) != x.want {
			t.Errorf("P10.1: Within(%v, %v, %v): %v", x.k, x.from, x.to, !x.want)
		}
	}
}

// P10.1: Within of every three of a rising row, by their places alone.
func TestWithinByPlaces(t *testing.T) {
	l := rising(t)
	for i := range l {
		for from := range l {
			for to := range l {
				want := i >= from && (to == 0 || i < to)
				if Within(l[i], l[from], l[to]) != want {
					t.Errorf("P10.1: Within of %d, %d, %d: %v", i, from, to, !want)
				}
			}
		}
	}
}

// plainSum sums a bit at a time, with no rotating of a word.
func plainSum(k api.Key) uint32 {
	var bit [32]int
	for _, c := range k {
		var next [32]int
		for i := range bit {
			next[(i+5)%32] = bit[i]
		}
		for i := range 8 {
			next[i] ^= int(c >> i & 1)
		}
		bit = next
	}
	var sum uint32
	for i, b := range bit {
		sum |= uint32(b) << i
	}
	return sum
}

// P10.1: Sum: all sixteen bytes in turn, and bits that leave above come in
// below.
func TestSum(t *testing.T) {
	for _, c := range []struct {
		k    api.Key
		want uint32
	}{
		{api.Key{}, 0},
		{api.Key{15: 1}, 1},
		{api.Key{15: 255}, 255},
		{api.Key{14: 1}, 32},
		{api.Key{14: 1, 15: 1}, 33},
		{api.Key{14: 1, 15: 32}, 0},
		{api.Key{14: 255}, 255 << 5},
		{api.Key{9: 1}, 1 << 30},
		{api.Key{9: 4}, 1},
		{api.Key{9: 255}, 0xc000003f},
		{api.Key{8: 1}, 8},
		{api.Key{1}, 1 << 11},
		{api.Key{1, 2}, 1<<11 | 1<<7},
		{api.Key{2, 1}, 1<<12 | 1<<6},
		{api.Key{255}, 255 << 11},
	} {
		if got := Sum(c.k); got != c.want {
			t.Errorf("P10.1: Sum(%v): %#x", c.k, got)
		}
	}
	if Sum(of(t, "ab")) == Sum(of(t, "ba")) {
		t.Errorf("P10.1: swapped bytes have one sum")
	}
	r := rand.New(rand.NewSource(10))
	for range 2000 {
		k := anyKey(r)
		if got, want := Sum(k), plainSum(k); got != want {
			t.Fatalf("P10.1: Sum(%v): %#x, not %#x", k, got, want)
		}
	}
}

// anyKey draws a key, which may be or not, of few or of all bytes.
func anyKey(r *rand.Rand) api.Key {
	var k api.Key
	most := []int{1, 2, 3, 256}[r.Intn(4)]
	for i := range r.Intn(17) {
		k[i] = byte(r.Intn(most))
	}
	return k
}

// plainSort puts each key in at its place, if it is not there.
func plainSort(l []api.Key) []api.Key {
	var s []api.Key
	for _, k := range l {
		at := 0
		for at < len(s) && string(s[at][:]) < string(k[:]) {
			at++
		}
		if at == len(s) || s[at] != k {
			s = slices.Insert(s, at, k)
		}
	}
	return s
}

// P10.1: Sort: rising, each once.
func TestSort(t *testing.T) {
	none, a, b, c := api.Key{}, of(t, "a"), of(t, "b"), of(t, "c")
	x, y := sixteen, sixteen
	x[15], y[15] = 127, 128
	for _, l := range []struct{ in, want []api.Key }{
		{nil, nil},
		{[]api.Key{}, nil},
		{[]api.Key{a}, []api.Key{a}},
		{[]api.Key{none}, []api.Key{none}},
		{[]api.Key{a, a}, []api.Key{a}},
		{[]api.Key{none, none, none}, []api.Key{none}},
		{[]api.Key{a, b, c}, []api.Key{a, b, c}},
		{[]api.Key{c, b, a}, []api.Key{a, b, c}},
		{[]api.Key{b, a, b, c, a}, []api.Key{a, b, c}},
		{[]api.Key{y, x, y, x}, []api.Key{x, y}},
		{[]api.Key{c, none, a}, []api.Key{none, a, c}},
		{[]api.Key{{'a', 0, 'b'}, a, {0, 1}}, []api.Key{{0, 1}, a, {'a', 0, 'b'}}},
	} {
		if got := Sort(l.in); !slices.Equal(got, l.want) {
			t.Errorf("P10.1: Sort(%v): %v", l.in, got)
		}
	}
}

// P10.1: Sort of any list, held against putting in by hand; what is sorted
// stays as it is.
func TestSortAny(t *testing.T) {
	r := rand.New(rand.NewSource(11))
	for range 500 {
		var l []api.Key
		for range r.Intn(60) {
			l = append(l, anyKey(r))
		}
		got := Sort(l)
		if !slices.Equal(got, plainSort(l)) {
			t.Fatalf("P10.1: Sort(%v): %v", l, got)
		}
		if again := Sort(got); !slices.Equal(again, got) {
			t.Fatalf("P10.1: Sort of a sorted list: %v", again)
		}
	}
}

// R4: the list that is handed in is as it was, spare room too.
func TestSortLeavesTheList(t *testing.T) {
	room := []api.Key{{'c'}, {'a'}, {'c'}, {'b'}, {'z'}, {'y'}}
	was := slices.Clone(room)
	for n := range len(room) + 1 {
		Sort(room[:n])
		if !slices.Equal(room, was) {
			t.Fatalf("R4: Sort of %d changed the list: %v", n, room)
		}
	}
}

// R4: neither list is the other's memory, be it sorted already or not.
func TestSortIsNewMemory(t *testing.T) {
	for _, in := range [][]api.Key{{{'a'}}, {{'a'}, {'b'}, {'c'}}, {{'c'}, {'a'}, {'a'}}} {
		was := slices.Clone(in)
		got := Sort(in)
		want := slices.Clone(got)
		for i := range in {
			in[i] = api.Key{'?'}
		}
		if !slices.Equal(got, want) {
			t.Errorf("R4: writing into the list changed the answer: %v", got)
		}
		copy(in, was)
		spare := got[:cap(got)]
		for i := range spare {
			spare[i] = api.Key{'!'}
		}
		if !slices.Equal(in, was) {
			t.Errorf("R4: writing into the answer changed the list: %v", in)
		}
		if again := Sort(in); !slices.Equal(again, want) {
			t.Errorf("R5: Sort of the same list again: %v", again)
		}
	}
}

// R4: an answer of no key has no room of the caller's either.
func TestSortOfNoKey(t *testing.T) {
	room := []api.Key{{'a'}, {'b'}}
	got := append(Sort(room[:0]), api.Key{'x'})
	if len(got) != 1 || room[0] != (api.Key{'a'}) {
		t.Errorf("R4: Sort of no key: %v, %v", got, room)
	}
}

// R1: lists of many keys, like ones and falling ones, end soon.
func TestSortOfMany(t *testing.T) {
	const n = 200000
	begun := time.Now()
	l := make([]api.Key, n)
	if got := Sort(l); len(got) != 1 || got[0] != (api.Key{}) {
		t.Errorf("P10.1: Sort of like keys: %d", len(got))
	}
	for i := range l {
		v := n - i
		l[i] = api.Key{'k', byte(v >> 16), byte(v >> 8), byte(v)}
	}
	got := Sort(l)
	slices.Reverse(l)
	if !slices.Equal(got, l) {
		t.Errorf("P10.1: Sort of falling keys: %d", len(got))
	}
	if took := time.Since(begun); took > 20*time.Second {
		t.Errorf("R1: Sort of many took %v", took)
	}
}

// P10.1, Ways: keys are arrays, so like ones are one key of a map.
func TestKeyOfMap(t *testing.T) {
	m := map[api.Key]int{}
	for i, s := range []string{"a", "b", "a", "0123456789abcdef", "a"} {
		m[of(t, s)] += i + 1
	}
	if len(m) != 3 || m[of(t, "a")] != 9 || m[api.Key{'b'}] != 2 || m[sixteen] != 4 || m[api.Key{}] != 0 {
		t.Errorf("P10.1: keys of a map: %v", m)
	}
}
