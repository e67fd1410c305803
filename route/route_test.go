package route

import (
	"bytes"
	"math/rand"
	"slices"
	"strconv"
	"strings"
	"testing"

	"hourglass/api"
	"hourglass/key"
)

const (
	most = 7   // MaxNodes - 1: how many points there may be
	long = 200 // MaxValue
)

// k is the bytes of a text, and noughts behind it, also where that may not be
// a key.
func k(s string) api.Key {
	var x api.Key
	copy(x[:], s)
	return x
}

func w(s, v string) api.Write { return api.Write{Key: k(s), Value: v} }

func gone(s string) api.Write { return api.Write{Key: k(s), Gone: true} }

func keys(l ...string) []api.Key {
	var out []api.Key
	for _, s := range l {
		out = append(out, k(s))
	}
	return out
}

// row is as many points as there may be, rising. No two are neighbours.
func row() []api.Key {
	return keys("b", "b\x05", "bb", "m", "sixteen bytes...", "\x80", "\xff\x02")
}

// tight is as many points as there may be, of which each is the least that may
// be above the one ahead.
func tight() []api.Key {
	return keys("a", "a\x01", "a\x01\x01", "a\x01\x01\x01", "a\x01\x01\x01\x01", "a\x01\x01\x01\x01\x01", "a\x01\x01\x01\x01\x01\x01")
}

// low is as many points as there may be: the least keys of few bytes, among
// them the very least.
func low() []api.Key {
	return keys("\x01", "\x01\x01", "\x01\x02", "\x02", "\x03", "\x03\x01", "\x04")
}

// last is as many points as there may be, that differ in their last byte.
func last() []api.Key {
	return keys("fifteen bytes..\x01", "fifteen bytes..\x02", "fifteen bytes..\x7e", "fifteen bytes..\x7f", "fifteen bytes..\x80", "fifteen bytes..\x81", "fifteen bytes..\xff")
}

func rows() [][]api.Key { return [][]api.Key{row(), tight(), low(), last()} }

// wrong are keys that may not be.
func wrong() []api.Key {
	return []api.Key{
		{}, {15: 1}, {0, 'b'}, {0, 255, 255}, k("\x00sixteen bytes.."), k("b\x00b"), k("b\x00\x05"), {'b', 15: 1}, k("a\x00\xff"), k("sixteen bytes.\x00."), {255, 15: 255},
	}
}

// table is a table of points that may be.
func table(t *testing.T, points ...api.Key) *Table {
	t.Helper()
	x, err := New(points...)
	if x == nil || err != api.OK {
		t.Fatalf("P17.1: New(%q): %v, %v", points, x, err)
	}
	return x
}

// tables are those of the first of each row's points, from none to all.
func tables(t *testing.T) map[*Table][]api.Key {
	m := map[*Table][]api.Key{}
	for _, l := range rows() {
		for n := range most + 1 {
			m[table(t, l[:n]...)] = l[:n]
		}
	}
	return m
}

// next is a key's sixteen bytes as a number, and one.
func next(x api.Key) api.Key {
	for i := 15; i >= 0; i-- {
		x[i]++
		if x[i] != 0 {
			break
		}
	}
	return x
}

// prior is a key's sixteen bytes as a number, less one.
func prior(x api.Key) api.Key {
	for i := 15; i >= 0; i-- {
		x[i]--
		if x[i] != 255 {
			break
		}
	}
	return x
}

// above is the least key that may be above one that may be and is not the
// greatest.
func above(x api.Key) api.Key {
	if n := bytes.IndexByte(x[:], 0); n >= 0 {
		x[n] = 1
		return x
	}
	return next(x)
}

// bad looks at each byte, from the last one on.
func bad(x api.Key) bool {
	text := false
	for i := 15; i >= 0; i-- {
		if x[i] == 0 && text {
			return true
		}
		text = text || x[i] != 0
	}
	return !text
}

// plainOf looks for the last point that is not above a key.
func plainOf(points []api.Key, x api.Key) int {
	if bad(x) {
		return -1
	}
	for i := len(points); i > 0; i-- {
		if string(x[:]) >= string(points[i-1][:]) {
			return i
		}
	}
	return 0
}

// plainCover tells the nodes of which a stretch holds sixteen bytes, whether
// they may be a key or not.
func plainCover(points []api.Key, from, to api.Key) []int {
	ends := []string{""}
	for _, p := range points {
		ends = append(ends, string(p[:]))
	}
	end := strings.Repeat("\xff", 17)
	ends = append(ends, end)
	if to != k("") {
		end = string(to[:])
	}
	var l []int
	for i := range len(points) + 1 {
		if max(ends[i], string(from[:])) < min(ends[i+1], end) {
			l = append(l, i)
		}
	}
	return l
}

func plainParts(points []api.Key, l []api.Write) []int {
	var out []int
	for node := range len(points) + 1 {
		if len(plainMine(points, node, l)) > 0 {
			out = append(out, node)
		}
	}
	return out
}

func plainMine(points []api.Key, node int, l []api.Write) []api.Write {
	var mine []api.Write
	for _, x := range l {
		if plainOf(points, x.Key) == node {
			mine = append(mine, x)
		}
	}
	return mine
}

// is fails, unless all calls tell the same as the plain ones, for each write,
// and each two of some ends.
func is(t *testing.T, what string, x *Table, points []api.Key, l []api.Write, ends []api.Key) {
	t.Helper()
	if got := x.Nodes(); got != len(points)+1 {
		t.Fatalf("%s: %q: Nodes: %d", what, points, got)
	}
	for _, y := range l {
		if got, want := x.Of(y.Key), plainOf(points, y.Key); got != want {
			t.Fatalf("%s: %q: Of(%q): %d; want %d", what, points, y.Key, got, want)
		}
	}
	if got, want := x.Parts(l...), plainParts(points, l); !slices.Equal(got, want) {
		t.Fatalf("%s: %q: Parts(%v): %v; want %v", what, points, l, got, want)
	}
	lists := x.Split(l...)
	if len(lists) != len(points)+1 {
		t.Fatalf("%s: %q: Split(%v): %d lists", what, points, l, len(lists))
	}
	for node, got := range lists {
		if want := plainMine(points, node, l); !slices.Equal(got, want) {
			t.Fatalf("%s: %q: Split(%v): node %d: %v; want %v", what, points, l, node, got, want)
		}
	}
	for _, from := range ends {
		for _, to := range ends {
			if got, want := x.Cover(from, to), plainCover(points, from, to); !slices.Equal(got, want) {
				t.Fatalf("%s: %q: Cover(%q, %q): %v; want %v", what, points, from, to, got, want)
			}
		}
	}
}

// around are keys, those that may not be too, at and beside each point and at
// the ends.
func around(points []api.Key) []api.Key {
	l := append(wrong(), k("\x01"), k("a"), k("z"), k(strings.Repeat("\xff", 16)), k(strings.Repeat("\xff", 15)+"\xfe"))
	for _, p := range points {
		l = append(l, p, next(p), prior(p), above(p))
	}
	return l
}

// to is a write to each key, all unlike.
func to(l []api.Key) []api.Write {
	var out []api.Write
	for i, x := range l {
		y := api.Write{Key: x, Value: "v" + strconv.Itoa(i)}
		if i%5 == 4 {
			y.Value, y.Gone = "", true
		}
		out = append(out, y)
	}
	return out
}

// P17.1: the chapter's example.
func TestExample(t *testing.T) {
	x := table(t, k("m"))
	if a, m := x.Of(k("a")), x.Of(k("m")); a != 0 || m != 1 {
		t.Errorf("P17.1: Of(a), Of(m): %d, %d", a, m)
	}
}

// P17.1: from no point to MaxNodes - 1 are taken, and there is one node more.
func TestNewCounts(t *testing.T) {
	for _, l := range rows() {
		for n := range most + 1 {
			x, err := New(l[:n]...)
			if x == nil || err != api.OK {
				t.Fatalf("P17.1: New of %d points: %v, %v", n, x, err)
			}
			if x.Nodes() != n+1 {
				t.Errorf("P17.1: Nodes of %d points: %d", n, x.Nodes())
			}
		}
	}
	if x, err := New([]api.Key{}...); x == nil || err != api.OK || x.Nodes() != 1 {
		t.Errorf("R4: New of an empty list: %v, %v", x, err)
	}
}

// refused fails, unless New answers EARG and no table.
func refused(t *testing.T, what string, points ...api.Key) {
	t.Helper()
	if x, err := New(points...); x != nil || err != api.EARG {
		t.Errorf("P17.1: %s: New(%.300q): %v, %v", what, points, x, err)
	}
}

// P17.1: more than MaxNodes - 1 are EARG, be they good or not, rising or not.
func TestNewTooMany(t *testing.T) {
	for _, n := range []int{most + 1, most + 2, 16, 100, 250, 1 << 16} {
		var rising, like []api.Key
		for i := range n {
			rising = append(rising, api.Key{'k', byte(i>>12) + 1, byte(i>>6&63) + 1, byte(i&63) + 1})
			like = append(like, k("k"))
		}
		refused(t, "rising", rising...)
		refused(t, "like", like...)
		refused(t, "noughts", make([]api.Key, n)...)
		slices.Reverse(rising)
		refused(t, "falling", rising...)
	}
	refused(t, "a good one behind", append(row(), k("\xff\xff"))...)
	refused(t, "a good one ahead", append(keys("a"), row()...)...)
	refused(t, "a wrong one behind", append(row(), k("\xff\xff\x00\x01"))...)
}

// P17.1: a point that may not be is EARG, wherever it stands, also where all
// would rise.
func TestNewWrongPoint(t *testing.T) {
	for _, l := range rows() {
		for n := 1; n <= most; n++ {
			for place := range n {
				for _, x := range append(wrong(), torn(l[place])...) {
					points := slices.Clone(l[:n])
					points[place] = x
					refused(t, "number "+strconv.Itoa(place)+" may not be", points...)
				}
			}
		}
	}
	for _, x := range wrong() {
		refused(t, "alone", x)
	}
}

// torn are keys near one, of which each has a byte behind a 0.
func torn(x api.Key) []api.Key {
	n := bytes.IndexByte(x[:], 0)
	if n < 0 {
		n = 16
	}
	var l []api.Key
	for i := 1; i < 15; i++ {
		y := x
		y[i], y[15] = 0, 1
		l = append(l, y)
		if i >= n {
			y = x
			y[i+1] = 255
			l = append(l, y)
		}
	}
	return slices.DeleteFunc(l, func(y api.Key) bool { return !bad(y) })
}

// The keys above rise with what stands ahead and behind, so that nothing but
// their form refuses them.
func TestTornRise(t *testing.T) {
	rising := 0
	l := row()
	for place := range l {
		for _, x := range torn(l[place]) {
			points := slices.Clone(l)
			points[place] = x
			if slices.IsSortedFunc(points, func(a, b api.Key) int { return bytes.Compare(a[:], b[:]) }) {
				rising++
			}
		}
	}
	if rising < 2*most {
		t.Errorf("only %d rise", rising)
	}
}

// P17.1: two that are alike, or fall, side by side or apart, are EARG at each
// place.
func TestNewNotRising(t *testing.T) {
	for _, l := range rows() {
		for n := 2; n <= most; n++ {
			for i := range n {
				for j := range i {
					alike := slices.Clone(l[:n])
					alike[i] = alike[j]
					refused(t, "alike, a later one", alike...)
					alike = slices.Clone(l[:n])
					alike[j] = alike[i]
					refused(t, "alike, an earlier one", alike...)
					swapped := slices.Clone(l[:n])
					swapped[i], swapped[j] = swapped[j], swapped[i]
					refused(t, "swapped", swapped...)
				}
			}
			falling := slices.Clone(l[:n])
			slices.Reverse(falling)
			refused(t, "falling", falling...)
		}
	}
}

// P17.1: Of counts the points that are not above a key.
func TestOf(t *testing.T) {
	l := row()
	for n := range most + 1 {
		x := table(t, l[:n]...)
		for _, s := range []string{"\x01", "a", "a\xff", "a" + strings.Repeat("\xff", 15)} {
			if got := x.Of(k(s)); got != 0 {
				t.Errorf("P17.1: %d points: Of(%q), below all: %d", n, s, got)
			}
		}
		for _, s := range []string{"\xff\x03", "\xff\xff", strings.Repeat("\xff", 16)} {
			if got := x.Of(k(s)); got != n {
				t.Errorf("P17.1: %d points: Of(%q), above all: %d", n, s, got)
			}
		}
		for i, p := range l {
			want := min(i+1, n)
			if got := x.Of(p); got != want {
				t.Errorf("P17.1: %d points: Of(%q), point %d: %d", n, p, i, got)
			}
			if got := x.Of(above(p)); got != want {
				t.Errorf("P17.1: %d points: Of(%q), just above point %d: %d", n, above(p), i, got)
			}
		}
		for i, s := range []string{"a" + strings.Repeat("\xff", 15), "b\x04" + strings.Repeat("\xff", 14), "ba" + strings.Repeat("\xff", 14), "l" + strings.Repeat("\xff", 15), "sixteen bytes..-", "\x7f" + strings.Repeat("\xff", 15), "\xff\x01" + strings.Repeat("\xff", 14)} {
			if got := x.Of(k(s)); got != min(i, n) {
				t.Errorf("P17.1: %d points: Of(%q), just below point %d: %d", n, s, i, got)
			}
		}
	}
}

// P17.1: a key that may not be is nobody's.
func TestOfWrong(t *testing.T) {
	for x, points := range tables(t) {
		for _, y := range wrong() {
			if got := x.Of(y); got != -1 {
				t.Errorf("P17.1: %q: Of(%q): %d", points, y, got)
			}
		}
		if len(points) == 0 && (x.Of(k("\x01")) != 0 || x.Of(k("m")) != 0 || x.Of(k(strings.Repeat("\xff", 16))) != 0) {
			t.Errorf("P17.1: with no point a key is not node 0's")
		}
	}
}

// P17.1: Parts: the nodes of what is written, rising, each once.
func TestParts(t *testing.T) {
	x := table(t, keys("g", "m", "t")...)
	for _, c := range []struct {
		l    []api.Write
		want []int
	}{
		{nil, nil},
		{[]api.Write{}, nil},
		{[]api.Write{w("a", "v")}, []int{0}},
		{[]api.Write{w("g", "v")}, []int{1}},
		{[]api.Write{gone("m")}, []int{2}},
		{[]api.Write{w("z", "")}, []int{3}},
		{[]api.Write{w("n", "v"), w("m", "v"), gone("s"), w("n", "v")}, []int{2}},
		{[]api.Write{w("a", "v"), w("h", "v"), w("n", "v"), w("u", "v")}, []int{0, 1, 2, 3}},
		{[]api.Write{w("u", "v"), w("n", "v"), gone("h"), w("a", "v")}, []int{0, 1, 2, 3}},
		{[]api.Write{w("u", "v"), w("a", "v"), w("z", "v"), w("b", "v"), w("u", "x")}, []int{0, 3}},
		{[]api.Write{w("t", "v"), w("s\xff", "v"), w("g", "v"), w("f\xff", "v")}, []int{0, 1, 2, 3}},
		{[]api.Write{w("n", strings.Repeat("x", long+1)), {Key: k("a"), Value: "x", Gone: true}}, []int{0, 2}},
		{to(wrong()), nil},
		{[]api.Write{{}}, nil},
		{append(to(wrong()), w("u", "v"), api.Write{Value: "v"}, w("h", "v"), w("\x00a", "v")), []int{1, 3}},
	} {
		if got := x.Parts(c.l...); !slices.Equal(got, c.want) {
			t.Errorf("P17.1: Parts(%.300v): %v; want %v", c.l, got, c.want)
		}
	}
	if got := x.Parts(); len(got) != 0 {
		t.Errorf("P17.1: Parts of no write: %v", got)
	}
}

// P17.1: Split: each node's writes, as they were and in the order told.
func TestSplit(t *testing.T) {
	x := table(t, keys("g", "m", "t")...)
	big := w("h", strings.Repeat("x", long+1))
	both := api.Write{Key: k("u"), Value: "x", Gone: true}
	for _, c := range []struct {
		l    []api.Write
		want [4][]api.Write
	}{
		{nil, [4][]api.Write{}},
		{[]api.Write{}, [4][]api.Write{}},
		{[]api.Write{gone("g")}, [4][]api.Write{1: {gone("g")}}},
		{[]api.Write{w("z", "1"), w("b", "2"), w("m", "3"), w("a", "4"), w("y", "5")}, [4][]api.Write{{w("b", "2"), w("a", "4")}, nil, {w("m", "3")}, {w("z", "1"), w("y", "5")}}},
		{[]api.Write{w("n", "1"), gone("n"), w("m", ""), w("n", "1"), w("n", "2")}, [4][]api.Write{2: {w("n", "1"), gone("n"), w("m", ""), w("n", "1"), w("n", "2")}}},
		{[]api.Write{big, both, w("a", "\x00")}, [4][]api.Write{{w("a", "\x00")}, {big}, nil, {both}}},
		{to(wrong()), [4][]api.Write{}},
		{[]api.Write{{}, w("u", "1"), w("\x00u", "2"), gone("a"), w("a\x00b", "3"), w("t", "4")}, [4][]api.Write{0: {gone("a")}, 3: {w("u", "1"), w("t", "4")}}},
	} {
		got := x.Split(c.l...)
		if !slices.EqualFunc(got, c.want[:], slices.Equal) {
			t.Errorf("P17.1: Split(%.300v): %.300v; want %.300v", c.l, got, c.want)
		}
	}
}

// P17.1: of no write, and of none that may be, there are as many empty lists
// as nodes.
func TestSplitOfNone(t *testing.T) {
	for x, points := range tables(t) {
		for _, got := range [][][]api.Write{x.Split(), x.Split([]api.Write{}...), x.Split(to(wrong())...)} {
			if len(got) != len(points)+1 {
				t.Fatalf("P17.1: %d points: Split of none: %d lists", len(points), len(got))
			}
			for node, l := range got {
				if len(l) != 0 {
					t.Errorf("P17.1: %d points: Split of none: node %d: %v", len(points), node, l)
				}
			}
		}
	}
}

// P17.1: Cover, by its words.
func TestCover(t *testing.T) {
	x := table(t, keys("g", "m", "t")...)
	for _, c := range []struct {
		from, to string
		want     []int
	}{
		{"", "", []int{0, 1, 2, 3}},

		{"a", "", []int{0, 1, 2, 3}},
		{"f\xff", "", []int{0, 1, 2, 3}},
		{"g", "", []int{1, 2, 3}},
		{"g\x01", "", []int{1, 2, 3}},
		{"m", "", []int{2, 3}},
		{"s\xff", "", []int{2, 3}},
		{"t", "", []int{3}},
		{"z", "", []int{3}},
		{strings.Repeat("\xff", 16), "", []int{3}},

		{"", "a", []int{0}},
		{"", "g", []int{0}},
		{"", "g\x01", []int{0, 1}},
		{"", "m", []int{0, 1}},
		{"", "m\x01", []int{0, 1, 2}},
		{"", "t", []int{0, 1, 2}},
		{"", "t\x01", []int{0, 1, 2, 3}},
		{"", "z", []int{0, 1, 2, 3}},
		{"", "\x00\x01", []int{0}},

		{"a", "b", []int{0}},
		{"g", "m", []int{1}},
		{"h", "i", []int{1}},
		{"m", "t", []int{2}},
		{"u", "v", []int{3}},
		{"f\xff", "g\x01", []int{0, 1}},
		{"f\xff", "g", []int{0}},
		{"l", "n", []int{1, 2}},
		{"g", "t", []int{1, 2}},
		{"h", "u", []int{1, 2, 3}},
		{"a", "z", []int{0, 1, 2, 3}},
		{"a", "t", []int{0, 1, 2}},

		{"b", "b", nil},
		{"g", "g", nil},
		{"z", "z", nil},
		{"b", "a", nil},
		{"i", "h", nil},
		{"n", "a", nil},
		{"z", "m", nil},
		{"\x00b", "\x00a", nil},
		{"\x00b", "\x00b", nil},
		{"a\x00b", "a", nil},
		{"g\x00b", "g", nil},
		{"t\x00\x01", "t\x00\x01", nil},

		{"g\x00b", "h", []int{1}},
		{"f\x00b", "g\x00\x01", []int{0, 1}},
		{"\x00b", "", []int{0, 1, 2, 3}},
		{"m\x00b", "", []int{2, 3}},
	} {
		if got := x.Cover(k(c.from), k(c.to)); !slices.Equal(got, c.want) {
			t.Errorf("P17.1: Cover(%q, %q): %v; want %v", c.from, c.to, got, c.want)
		}
	}
}

// P17.1: Cover with no point, and with one.
func TestCoverOfFewNodes(t *testing.T) {
	for _, c := range []struct {
		points   []api.Key
		from, to string
		want     []int
	}{
		{nil, "", "", []int{0}},
		{nil, "a", "b", []int{0}},
		{nil, "a", "", []int{0}},
		{nil, "", "\x01", []int{0}},
		{nil, "a", "a", nil},
		{nil, "b", "a", nil},
		{keys("m"), "", "", []int{0, 1}},
		{keys("m"), "", "m", []int{0}},
		{keys("m"), "l", "m\x01", []int{0, 1}},
		{keys("m"), "m", "", []int{1}},
		{keys("m"), "m", "m\x01", []int{1}},
		{keys("m"), "m", "m", nil},
		{keys("m"), "m", "l", nil},
		{keys("\x01"), "", "\x01", []int{0}},
		{keys("\x01"), "", "\x02", []int{0, 1}},
		{keys("\x01"), "\x01", "", []int{1}},
	} {
		x := table(t, c.points...)
		if got := x.Cover(k(c.from), k(c.to)); !slices.Equal(got, c.want) {
			t.Errorf("P17.1: points %q: Cover(%q, %q): %v; want %v", c.points, c.from, c.to, got, c.want)
		}
	}
}

// P17.1: all calls, at and beside each point, for each count of points.
func TestAroundPoints(t *testing.T) {
	for x, points := range tables(t) {
		l := around(points)
		is(t, "P17.1: around points", x, points, to(l), l)
		slices.Reverse(l)
		is(t, "P17.1: around points, backwards", x, points, to(l), l)
	}
}

// anyKey draws a key, which may be or not, mostly near others.
func anyKey(r *rand.Rand) api.Key {
	var x api.Key
	n := 1 + r.Intn(3)
	if r.Intn(6) == 0 {
		n = 16
	}
	for i := range n {
		x[i] = []byte{0, 1, 2, 'a', 'a', 'a', 'b', 127, 128, 254, 255}[r.Intn(11)]
	}
	if r.Intn(8) == 0 {
		x[15]++
	}
	return x
}

// anyPoints draws points that may be: by hand, so that they hang on no other
// call.
func anyPoints(r *rand.Rand) []api.Key {
	var l []api.Key
	for range r.Intn(most + 1) {
		if x := anyKey(r); !bad(x) && !slices.Contains(l, x) {
			l = append(l, x)
		}
	}
	slices.SortFunc(l, func(a, b api.Key) int { return strings.Compare(string(a[:]), string(b[:])) })
	return l
}

// anyEnds draws keys, the points among them.
func anyEnds(r *rand.Rand, points []api.Key) []api.Key {
	l := append(slices.Clone(points), api.Key{})
	for range 12 {
		l = append(l, anyKey(r))
	}
	r.Shuffle(len(l), func(i, j int) { l[i], l[j] = l[j], l[i] })
	return l
}

// P17.1: random points, writes and stretches, against plain calls.
func TestAny(t *testing.T) {
	r := rand.New(rand.NewSource(17))
	for range 1500 {
		points := anyPoints(r)
		l := anyEnds(r, points)
		is(t, "P17.1: random", table(t, points...), points, to(l), l)
	}
}

// P17.1: random lists of points: those are refused that are too many, may not
// be, or do not rise.
func TestNewAny(t *testing.T) {
	r := rand.New(rand.NewSource(18))
	good := 0
	for range 20000 {
		points := anyPoints(r)
		for range r.Intn(3) {
			points = slices.Insert(points, r.Intn(len(points)+1), anyKey(r))
		}
		want := api.OK
		for i, p := range points {
			if i >= most || bad(p) || i > 0 && string(p[:]) <= string(points[i-1][:]) {
				want = api.EARG
			}
		}
		x, err := New(points...)
		if err != want || (x == nil) != (want != api.OK) {
			t.Fatalf("P17.1: New(%q): %v, %v", points, x, err)
		}
		if want == api.OK {
			good++
		}
	}
	if good < 5000 || good > 15000 {
		t.Errorf("%d are good", good)
	}
}

// P17.1: whoever has a key between two is told by Cover; nodes told are side
// by side.
func TestCoverMeetsWithin(t *testing.T) {
	r := rand.New(rand.NewSource(19))
	for range 800 {
		points := anyPoints(r)
		x := table(t, points...)
		l := anyEnds(r, points)
		for _, from := range l {
			for _, to := range l {
				told := x.Cover(from, to)
				for i := 1; i < len(told); i++ {
					if told[i] != told[i-1]+1 {
						t.Fatalf("P17.1: %q: Cover(%q, %q): %v", points, from, to, told)
					}
				}
				for _, y := range l {
					if node := x.Of(y); node >= 0 && key.Within(y, from, to) && !slices.Contains(told, node) {
						t.Fatalf("P17.1: %q: Cover(%q, %q): %v; %q is between, of node %d", points, from, to, told, y, node)
					}
				}
			}
		}
	}
}

// R4: what is written into the points later changes no table, and New leaves
// them as they were, spare room too.
func TestPointsAreNotKept(t *testing.T) {
	for n := range most + 1 {
		room := append(row(), keys("\xff\xfe", "\xff\xff")...)
		was := slices.Clone(room)
		x := table(t, room[:n]...)
		if !slices.Equal(room, was) {
			t.Fatalf("R4: New of %d changed the points: %q", n, room)
		}
		clear(room)
		is(t, "R4: points overwritten", x, was[:n], to(was), was)
	}
}

// R3, R4: points that are refused are as they were, too.
func TestRefusedPointsAreAsTheyWere(t *testing.T) {
	falling := row()
	slices.Reverse(falling)
	for _, points := range [][]api.Key{append(row(), k("a")), falling, append(keys("b"), wrong()[:3]...), keys("c", "b", "b", "a")} {
		was := slices.Clone(points)
		refused(t, "refused", points...)
		if !slices.Equal(points, was) {
			t.Errorf("R4: a refused New changed the points: %q", points)
		}
	}
}

// P17.1: two tables know nothing of each other.
func TestTwoTables(t *testing.T) {
	one, two := table(t, row()...), table(t, k("m"))
	is(t, "P17.1: the first", one, row(), to(row()), row())
	is(t, "P17.1: the second", two, keys("m"), to(row()), row())
	refused(t, "noughts", api.Key{})
	is(t, "P17.1: the first again", one, row(), to(row()), row())
}

// R4: the writes that are handed in are as they were, spare room too, and are
// not in what is answered.
func TestWritesAreNotKept(t *testing.T) {
	for _, points := range [][]api.Key{nil, keys("m"), row()} {
		x := table(t, points...)
		room := to(around(row()))
		was := slices.Clone(room)
		for n := range len(room) + 1 {
			x.Parts(room[:n]...)
			lists := x.Split(room[:n]...)
			if !slices.Equal(room, was) {
				t.Fatalf("R4: the writes were changed: %v", room)
			}
			for i := range room {
				room[i] = w("?", "?")
			}
			for node, got := range lists {
				if want := plainMine(points, node, was[:n]); !slices.Equal(got, want) {
					t.Fatalf("R4: writing into the list changed node %d's: %v; want %v", node, got, want)
				}
			}
			copy(room, was)
		}
	}
}

// R4: no two lists that Split tells share room, nor any with the writes; what
// is written into them changes no later answer.
func TestSplitIsNewMemory(t *testing.T) {
	for _, points := range [][]api.Key{nil, keys("m"), row()} {
		x := table(t, points...)
		l := to(around(row()))
		was := slices.Clone(l)
		n := len(points) + 1
		for node := range n {
			lists := x.Split(l...)
			spoil(lists[node])
			for other, got := range lists {
				if want := plainMine(points, other, was); other != node && !slices.Equal(got, want) {
					t.Fatalf("R4: node %d's list is in node %d's: %v", node, other, got)
				}
			}
			if !slices.Equal(l, was) {
				t.Fatalf("R4: node %d's list is in the writes: %v", node, l)
			}
			all := lists[:cap(lists)]
			for i := range all {
				all[i] = []api.Write{w("!", "!")}
			}
			is(t, "R4: Split overwritten", x, points, was, around(points))
		}
	}
	x := table(t, k("m"))
	l := []api.Write{w("a", "1"), w("b", "2"), w("z", "3")}
	lists := x.Split(l...)
	lists[0] = append(lists[0], w("c", "4"))
	lists[1] = append(lists[1], w("y", "5"))
	if lists[1][0] != w("z", "3") || lists[0][2] != w("c", "4") || l[2] != w("z", "3") {
		t.Errorf("R4: appended: %v, %v", lists, l)
	}
}

// spoil writes into all of a list, spare room too.
func spoil(l []api.Write) {
	l = l[:cap(l)]
	for i := range l {
		l[i] = w("!", "!")
	}
}

// R4, R5: what is written into an answer of Parts or Cover changes no later
// one.
func TestNodesAreNewMemory(t *testing.T) {
	x := table(t, row()...)
	l := to(row())
	calls := map[string]func() []int{
		"Parts":            func() []int { return x.Parts(l...) },
		"Cover":            func() []int { return x.Cover(k("b"), k("n")) },
		"Cover of all":     func() []int { return x.Cover(k(""), k("")) },
		"Cover of the end": func() []int { return x.Cover(k("z"), k("")) },
	}
	for what, call := range calls {
		first, other := call(), call()
		want := slices.Clone(first)
		room := first[:cap(first)]
		for i := range room {
			room[i] = -9
		}
		if !slices.Equal(other, want) || !slices.Equal(call(), want) {
			t.Errorf("R4: %s: %v, %v; want %v", what, other, call(), want)
		}
	}
	is(t, "R4: nodes overwritten", x, row(), to(around(row())), around(row()))
}

// R5: each call told again tells the same, whatever was called in between.
func TestCallsChangeNothing(t *testing.T) {
	x := table(t, row()...)
	l := around(row())
	for range 3 {
		is(t, "R5: again", x, row(), to(l), l)
		x.Of(api.Key{})
		x.Parts(to(wrong())...)
		x.Split(to(wrong())...)
		x.Cover(k("b"), k("a"))
	}
}

// R1: lists of many writes end.
func TestMany(t *testing.T) {
	const n = 200000
	x := table(t, row()...)
	l := make([]api.Write, n)
	for i := range l {
		l[i] = api.Write{Key: api.Key{byte(i), byte(i >> 8), 1}}
	}
	if got := x.Parts(l...); !slices.Equal(got, []int{0, 1, 2, 3, 4, 5, 6, 7}) {
		t.Errorf("P17.1: Parts of many: %v", got)
	}
	count, want := 0, 0
	for _, mine := range x.Split(l...) {
		count += len(mine)
	}
	for _, y := range l {
		if !bad(y.Key) {
			want++
		}
	}
	if count != want {
		t.Errorf("P17.1: Split of many: %d writes; want %d", count, want)
	}
}
