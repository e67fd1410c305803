package stamp

import (
	"fmt"
	"math"
	"math/big"
	"strings"
	"testing"

	"hourglass/api"
)

const top = 36028797018963967 // MaxTime, in digits

func at(time int64, node uint8) api.Stamp { return api.Stamp{Time: time, Node: node} }

// times are those at each edge and around each power of two, rising, with
// whether a stamp of them may be.
func times() (bad, good, past []int64) {
	bad = []int64{math.MinInt64, math.MinInt64 + 1, -top - 2, -top - 1, -top, -top + 1, -1 << 32, -257, -256, -255, -2, -1}
	good = []int64{0, 1, 2, 3}
	for i := 2; i < 55; i++ {
		good = append(good, 1<<i, 1<<i+1, 1<<(i+1)-1)
	}
	past = []int64{top + 1, top + 2, 2*top + 1, 2*top + 2, math.MaxInt64 - 1, math.MaxInt64}
	return bad, good, past
}

// nodes are those of one, two and three digits, and around each power of two.
func nodes() []uint8 {
	return []uint8{0, 1, 2, 3, 7, 8, 9, 10, 15, 16, 63, 64, 99, 100, 127, 128, 200, 254, 255}
}

// edges are the stamps that the promise's tests name, rising.
func edges() []api.Stamp {
	var l []api.Stamp
	for _, time := range []int64{math.MinInt64, -1, 0, 1, top, top + 1, math.MaxInt64} {
		for _, node := range []uint8{0, 1, 255} {
			l = append(l, at(time, node))
		}
	}
	return l
}

// all are stamps of all times and nodes.
func all() []api.Stamp {
	bad, good, past := times()
	var l []api.Stamp
	for _, part := range [][]int64{bad, good, past} {
		for _, time := range part {
			for _, node := range nodes() {
				l = append(l, at(time, node))
			}
		}
	}
	return l
}

// sum is a Time of 256 and a Node of 1 each, without any bound.
func sum(s api.Stamp) *big.Int {
	n := new(big.Int).Mul(big.NewInt(s.Time), big.NewInt(256))
	return n.Add(n, big.NewInt(int64(s.Node)))
}

// The limit is as the tests take it.
func TestTop(t *testing.T) {
	if api.MaxTime != top {
		t.Fatalf("MaxTime is %d", int64(api.MaxTime))
	}
}

// P6.1: a stamp may be by its Time, whatever its Node.
func TestGood(t *testing.T) {
	bad, good, past := times()
	for node := range 256 {
		for _, time := range good {
			if !Good(at(time, uint8(node))) {
				t.Errorf("Good of %d, %d: false", time, node)
			}
		}
		for _, time := range append(bad, past...) {
			if Good(at(time, uint8(node))) {
				t.Errorf("Good of %d, %d: true", time, node)
			}
		}
	}
}

// P6.1: each two of the edges, by their places in order.
func TestCmpEdges(t *testing.T) {
	l := edges()
	for i, a := range l {
		for k, b := range l {
			want, most := 0, a
			if i < k {
				want, most = -1, b
			}
			if i > k {
				want = 1
			}
			if c := Cmp(a, b); c != want {
				t.Errorf("Cmp(%v, %v) = %d, want %d", a, b, c, want)
			}
			if m := Max(a, b); m != most {
				t.Errorf("Max(%v, %v) = %v, want %v", a, b, m, most)
			}
		}
	}
}

// P6.1: each two of all, by their numbers without any bound.
func TestCmpAll(t *testing.T) {
	l := all()
	sums := make([]*big.Int, len(l))
	for i, s := range l {
		sums[i] = sum(s)
	}
	for i, a := range l {
		for k, b := range l {
			want := sums[i].Cmp(sums[k])
			if c := Cmp(a, b); c != want {
				t.Fatalf("Cmp(%v, %v) = %d, want %d", a, b, c, want)
			}
			if m := Max(a, b); want >= 0 && m != a || want <= 0 && m != b {
				t.Fatalf("Max(%v, %v) = %v", a, b, m)
			}
		}
	}
}

// P6.1: two that are alike but for Node, at Times that may be and may not.
func TestCmpByNode(t *testing.T) {
	for _, time := range []int64{math.MinInt64, -1, 0, 1, top, top + 1, math.MaxInt64} {
		for a := range 256 {
			for b := range 256 {
				want := 0
				if a < b {
					want = -1
				}
				if a > b {
					want = 1
				}
				x, y := at(time, uint8(a)), at(time, uint8(b))
				if c := Cmp(x, y); c != want {
					t.Fatalf("Cmp(%v, %v) = %d, want %d", x, y, c, want)
				}
				if m := Max(x, y); m != at(time, uint8(max(a, b))) {
					t.Fatalf("Max(%v, %v) = %v", x, y, m)
				}
			}
		}
	}
}

// P6.1: the numbers that are told, and both ways.
func TestPackForms(t *testing.T) {
	for _, c := range []struct {
		s api.Stamp
		v uint64
	}{
		{at(0, 0), 0}, {at(0, 1), 1}, {at(0, 255), 255}, {at(1, 0), 256}, {at(1, 1), 257}, {at(1, 2), 258}, {at(1, 255), 511}, {at(2, 0), 512},
		{at(1<<24, 3), 1<<32 + 3}, {at(1<<48, 128), 1<<56 + 128}, {at(1<<54, 0), 1 << 62}, {at(top-1, 255), 1<<63 - 257},
		{at(top, 0), 1<<63 - 256}, {at(top, 1), 1<<63 - 255}, {at(top, 254), 1<<63 - 2}, {at(top, 255), math.MaxInt64},
	} {
		if v, err := Pack(c.s); v != c.v || err != api.OK {
			t.Errorf("Pack(%v) = %d, %d, want %d", c.s, v, err, c.v)
		}
		if s, err := Unpack(c.v); s != c.s || err != api.OK {
			t.Errorf("Unpack(%d) = %v, %d, want %v", c.v, s, err, c.s)
		}
	}
}

// P6.1, R2: Pack of all: EARG and 0 of what may not be; else 256 of each Time
// and one of each Node, and Unpack leads back.
func TestPackAll(t *testing.T) {
	for _, s := range all() {
		v, err := Pack(s)
		if s.Time < 0 || s.Time > top {
			if v != 0 || err != api.EARG {
				t.Errorf("Pack(%v) = %d, %d, want 0, EARG", s, v, err)
			}
			continue
		}
		if err != api.OK || sum(s).Cmp(new(big.Int).SetUint64(v)) != 0 {
			t.Errorf("Pack(%v) = %d, %d, want %v", s, v, err, sum(s))
		}
		if back, err := Unpack(v); back != s || err != api.OK {
			t.Errorf("Unpack(Pack(%v)) = %v, %d", s, back, err)
		}
	}
}

// P6.1: Pack keeps the order of stamps.
func TestPackKeepsOrder(t *testing.T) {
	var ahead uint64
	for i, s := range all() {
		v, err := Pack(s)
		if err == api.OK && i > 0 && s != at(0, 0) && v <= ahead {
			t.Errorf("Pack(%v) = %d, not above %d", s, v, ahead)
		}
		ahead = v
	}
}

// P6.1: Unpack of numbers around each power of two and of some without a
// pattern: what it answers may be, and Pack leads back.
func TestUnpackBack(t *testing.T) {
	l := []uint64{0, 1, 255, 256, 258, math.MaxInt64, 0x0123456789abcdef, 0x7edcba9876543210}
	for i := range 63 {
		l = append(l, 1<<i-1, 1<<i, 1<<i+1)
	}
	x := uint64(1)
	for i := range 5000 {
		x = x*6364136223846793005 + 1442695040888963407
		l = append(l, x>>(1+i%63))
	}
	for _, v := range l {
		s, err := Unpack(v)
		if want := at(int64(v/256), uint8(v%256)); s != want || err != api.OK || !Good(s) {
			t.Fatalf("Unpack(%d) = %v, %d, want %v", v, s, err, want)
		}
		if back, err := Pack(s); back != v || err != api.OK {
			t.Fatalf("Pack(Unpack(%d)) = %d, %d", v, back, err)
		}
	}
}

// P6.1, R2: numbers whose highest bit is 1, whatever the others are.
func TestUnpackRefuses(t *testing.T) {
	l := []uint64{1 << 63, 1<<63 + 1, 1<<63 + 255, 1<<63 + 256, 1<<63 + 258, 3 << 62, math.MaxUint64 - 256, math.MaxUint64 - 1, math.MaxUint64}
	for i := range 63 {
		l = append(l, 1<<63|1<<i, math.MaxUint64-1<<i)
	}
	for _, v := range l {
		if s, err := Unpack(v); s != (api.Stamp{}) || err != api.EARG {
			t.Errorf("Unpack(%d) = %v, %d, want zero, EARG", v, s, err)
		}
	}
}

// P6.1, R2: Next of all, with the same Node; the refusals tell nothing else.
func TestNext(t *testing.T) {
	for _, s := range all() {
		want, wantErr := at(s.Time+1, s.Node), api.OK
		switch {
		case s.Time < 0 || s.Time > top:
			want, wantErr = api.Stamp{}, api.EARG
		case s.Time == top:
			want, wantErr = api.Stamp{}, api.ESPENT
		}
		got, err := Next(s)
		if got != want || err != wantErr {
			t.Errorf("Next(%v) = %v, %d, want %v, %d", s, got, err, want, wantErr)
		}
		if err == api.OK && (!Good(got) || Cmp(got, s) != 1) {
			t.Errorf("Next(%v) = %v, not above it", s, got)
		}
	}
}

// P6.1: the edges of Next that are named, at each Node.
func TestNextEdges(t *testing.T) {
	for node := range 256 {
		n := uint8(node)
		for _, c := range []struct {
			s, want api.Stamp
			err     api.Errno
		}{
			{at(0, n), at(1, n), api.OK}, {at(top-1, n), at(top, n), api.OK}, {at(top, n), at(0, 0), api.ESPENT},
			{at(top+1, n), at(0, 0), api.EARG}, {at(math.MaxInt64, n), at(0, 0), api.EARG}, {at(-1, n), at(0, 0), api.EARG}, {at(math.MinInt64, n), at(0, 0), api.EARG},
		} {
			if s, err := Next(c.s); s != c.want || err != c.err {
				t.Errorf("Next(%v) = %v, %d, want %v, %d", c.s, s, err, c.want, c.err)
			}
		}
	}
}

// P6.1, R7: texts that are told.
func TestTextForms(t *testing.T) {
	for _, c := range []struct {
		s    api.Stamp
		want string
	}{
		{at(0, 0), "0.0"}, {at(1, 2), "1.2"}, {at(9, 9), "9.9"}, {at(10, 10), "10.10"}, {at(0, 99), "0.99"}, {at(0, 100), "0.100"}, {at(0, 255), "0.255"},
		{at(-1, 3), "-1.3"}, {at(-10, 0), "-10.0"}, {at(top, 255), "36028797018963967.255"}, {at(top+1, 0), "36028797018963968.0"},
		{at(math.MaxInt64, 9), "9223372036854775807.9"}, {at(math.MinInt64, 0), "-9223372036854775808.0"}, {at(math.MinInt64, 255), "-9223372036854775808.255"},
	} {
		if s := Text(c.s); s != c.want {
			t.Errorf("Text(%v) = %q, want %q", c.s, s, c.want)
		}
	}
}

// P6.1, R7: texts of Times of each length, on both sides of 0, at each Node.
func TestTextOfEachLength(t *testing.T) {
	l := []int64{0, math.MinInt64, math.MaxInt64}
	for n := 1; n <= 19; n++ {
		least := int64(1)
		for range n - 1 {
			least *= 10
		}
		for _, time := range []int64{least, least + 1, 7 * (least/7 + 1), least - 1} {
			l = append(l, time, -time)
		}
	}
	for _, time := range l {
		for node := range 256 {
			want := fmt.Sprintf("%d.%d", time, node)
			if s := Text(at(time, uint8(node))); s != want || strings.Count(s, ".") != 1 {
				t.Fatalf("Text of %d, %d: %q, want %q", time, node, s, want)
			}
		}
	}
}
