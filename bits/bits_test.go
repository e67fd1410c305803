package bits

import (
	"bytes"
	"encoding/binary"
	"math"
	"testing"

	"hourglass/api"
)

// forms are numbers at the edges of each length, with the bytes that they are.
var forms = []struct {
	v uint64
	b []byte
}{
	{0, []byte{0}},
	{1, []byte{1}},
	{127, []byte{127}},
	{128, []byte{128, 1}},
	{255, []byte{255, 1}},
	{300, []byte{172, 2}},
	{1<<14 - 1, []byte{255, 127}},
	{1 << 14, []byte{128, 128, 1}},
	{1<<63 - 1, []byte{255, 255, 255, 255, 255, 255, 255, 255, 127}},
	{1 << 63, []byte{128, 128, 128, 128, 128, 128, 128, 128, 128, 1}},
	{math.MaxUint64, []byte{255, 255, 255, 255, 255, 255, 255, 255, 255, 1}},
}

// numbers are those around each power of two, and some without a pattern.
func numbers() []uint64 {
	l := []uint64{0, math.MaxUint64, 0x0123456789abcdef, 0xfedcba9876543210}
	for i := range 64 {
		l = append(l, 1<<i-1, 1<<i, 1<<i+1, -(uint64(1) << i))
	}
	x := uint64(1)
	for i := range 2000 {
		x = x*6364136223846793005 + 1442695040888963407
		l = append(l, x>>(i%64))
	}
	return l
}

// P1.1: the bytes of Put, and Len's count of them.
func TestPutForms(t *testing.T) {
	for _, f := range forms {
		if b := Put(nil, f.v); !bytes.Equal(b, f.b) {
			t.Errorf("Put(nil, %d) = %v, want %v", f.v, b, f.b)
		}
		if b := Put([]byte{}, f.v); !bytes.Equal(b, f.b) {
			t.Errorf("Put(empty, %d) = %v, want %v", f.v, b, f.b)
		}
		want := append([]byte{128, 0, 9}, f.b...)
		if b := Put([]byte{128, 0, 9}, f.v); !bytes.Equal(b, want) {
			t.Errorf("Put(128 0 9, %d) = %v, want %v", f.v, b, want)
		}
		if n := Len(f.v); n != len(f.b) {
			t.Errorf("Len(%d) = %d, want %d", f.v, n, len(f.b))
		}
	}
}

// P1.1: Len grows by one at each seven bits, from one byte to ten.
func TestLenEdges(t *testing.T) {
	for n := 1; n <= 9; n++ {
		edge := uint64(1) << (7 * n)
		if Len(edge-1) != n || Len(edge) != n+1 {
			t.Errorf("Len around 1<<%d = %d, %d, want %d, %d", 7*n, Len(edge-1), Len(edge), n, n+1)
		}
	}
}

// P1.1: what Put writes Get reads, whatever comes behind it; a piece of it has no end.
func TestPutGetBack(t *testing.T) {
	for _, v := range numbers() {
		b := Put(nil, v)
		if want := binary.AppendUvarint(nil, v); !bytes.Equal(b, want) || Len(v) != len(want) {
			t.Fatalf("Put(nil, %d) = %v, Len %d, want %v", v, b, Len(v), want)
		}
		for _, tail := range [][]byte{nil, {0}, {255}, {128, 128, 128, 128, 128, 128, 128, 128, 128, 128, 128, 128}} {
			got, n, err := Get(append(bytes.Clone(b), tail...))
			if got != v || n != len(b) || err != api.OK {
				t.Fatalf("Get(%v then %v) = %d, %d, %d", b, tail, got, n, err)
			}
		}
		for k := range b {
			wantEform(t, b[:k])
		}
	}
}

// P1.1: the wrong inputs that the chapter names, with nothing told beside the error (R2).
func TestGetRefuses(t *testing.T) {
	wantEform(t, nil)
	wantEform(t, []byte{})
	for n := 1; n <= 20; n++ {
		open := bytes.Repeat([]byte{128}, n)
		wantEform(t, open)
		wantEform(t, bytes.Repeat([]byte{255}, n))
		wantEform(t, append(bytes.Clone(open), 0))
		if n >= 10 {
			wantEform(t, append(bytes.Clone(open), 1))
		}
	}
	nine := bytes.Repeat([]byte{255}, 9)
	for c := range 256 {
		if c != 1 {
			wantEform(t, append(bytes.Clone(nine), byte(c)))
			wantEform(t, append(bytes.Clone(nine), byte(c), 1))
		}
	}
}

func wantEform(t *testing.T, b []byte) {
	t.Helper()
	if v, n, err := Get(b); v != 0 || n != 0 || err != api.EFORM {
		t.Errorf("Get(%v) = %d, %d, %d, want 0, 0, EFORM", b, v, n, err)
	}
}

// P1.1: each number has one form: Get takes a text if and only if Put writes it so.
func TestGetTakesOnlyWhatPutWrites(t *testing.T) {
	edges := []byte{0, 1, 2, 63, 64, 126, 127, 128, 129, 130, 254, 255}
	for _, a := range edges {
		for _, b := range edges {
			for _, c := range edges {
				text := []byte{a, b, c}
				v, n, err := Get(text)
				if err == api.OK && !bytes.Equal(Put(nil, v), text[:n]) {
					t.Errorf("Get(%v) = %d, %d, but Put writes %v", text, v, n, Put(nil, v))
				}
				ref, size := binary.Uvarint(text)
				whole := size > 0 && (size == 1 || text[size-1] != 0)
				if whole != (err == api.OK) || whole && (v != ref || n != size) {
					t.Errorf("Get(%v) = %d, %d, %d", text, v, n, err)
				}
			}
		}
	}
}

// R4: Put leaves its list alone, spare room included, and answers memory of its own.
func TestPutLeavesItsList(t *testing.T) {
	for _, v := range []uint64{0, 5, 300, math.MaxUint64} {
		for size := range 4 {
			room := bytes.Repeat([]byte{77}, 32)
			out := Put(room[:size], v)
			out = out[:cap(out)]
			for i := range out {
				out[i] = 99
			}
			if !bytes.Equal(room, bytes.Repeat([]byte{77}, 32)) {
				t.Errorf("Put of %d behind %d bytes changed its list: %v", v, size, room)
			}
		}
	}
}

// R4: a list that is changed after the call does not change the answer.
func TestPutKeepsNothing(t *testing.T) {
	b := make([]byte, 2, 32)
	first := Put(b, 300)
	second := Put(b, 301)
	b[0] = 9
	if !bytes.Equal(first, []byte{0, 0, 172, 2}) || !bytes.Equal(second, []byte{0, 0, 173, 2}) {
		t.Errorf("two answers share memory: %v, %v", first, second)
	}
}

// R4: Get leaves its list alone.
func TestGetLeavesItsList(t *testing.T) {
	b := []byte{172, 2, 200, 0}
	Get(b)
	Get(b[2:])
	if !bytes.Equal(b, []byte{172, 2, 200, 0}) {
		t.Errorf("Get changed its list: %v", b)
	}
}

// P1.2: signs folded in, and back.
func TestZigZag(t *testing.T) {
	for v, want := range map[int64]uint64{
		0: 0, -1: 1, 1: 2, -2: 3, 2: 4, -64: 127, 64: 128,
		math.MaxInt32: math.MaxUint32 - 1, math.MinInt32: math.MaxUint32,
		math.MaxInt64: math.MaxUint64 - 1, math.MinInt64: math.MaxUint64,
	} {
		if got := Zig(v); got != want {
			t.Errorf("Zig(%d) = %d, want %d", v, got, want)
		}
		if got := Zag(want); got != v {
			t.Errorf("Zag(%d) = %d, want %d", want, got, v)
		}
	}
	for _, u := range numbers() {
		if Zig(Zag(u)) != u || Zag(Zig(int64(u))) != int64(u) {
			t.Errorf("Zig and Zag of %d do not go back", u)
		}
	}
}

// P1.2: Sign of few bits, of all, and of counts outside 1 to 64.
func TestSign(t *testing.T) {
	for _, c := range []struct {
		v    uint64
		bits int
		want int64
	}{
		{0, 1, 0}, {1, 1, -1}, {2, 1, 0}, {3, 1, -1},
		{127, 8, 127}, {128, 8, -128}, {255, 8, -1}, {256, 8, 0}, {0xabcdef80, 8, -128},
		{1<<62 - 1, 63, 1<<62 - 1}, {1 << 62, 63, -1 << 62}, {1 << 63, 63, 0},
		{1<<63 - 1, 64, math.MaxInt64}, {1 << 63, 64, math.MinInt64}, {math.MaxUint64, 64, -1},
	} {
		if got := Sign(c.v, c.bits); got != c.want {
			t.Errorf("Sign(%d, %d) = %d, want %d", c.v, c.bits, got, c.want)
		}
	}
}

// P1.2: Cut tells the lowest bits even where they are not all.
func TestCut(t *testing.T) {
	for _, c := range []struct {
		v    int64
		bits int
		want uint64
		all  bool
	}{
		{0, 1, 0, true}, {-1, 1, 1, true}, {1, 1, 1, false}, {2, 1, 0, false},
		{127, 8, 127, true}, {128, 8, 128, false}, {255, 8, 255, false}, {256, 8, 0, false},
		{-128, 8, 128, true}, {-129, 8, 127, false},
		{1<<62 - 1, 63, 1<<62 - 1, true}, {1 << 62, 63, 1 << 62, false}, {-1 << 62, 63, 1 << 62, true},
		{math.MinInt64, 63, 0, false}, {math.MaxInt64, 63, math.MaxInt64, false},
		{math.MinInt64, 64, 1 << 63, true}, {math.MaxInt64, 64, math.MaxInt64, true}, {-1, 64, math.MaxUint64, true},
	} {
		if got, all := Cut(c.v, c.bits); got != c.want || all != c.all {
			t.Errorf("Cut(%d, %d) = %d, %v, want %d, %v", c.v, c.bits, got, all, c.want, c.all)
		}
	}
}

// P1.2: a count of bits outside 1 to 64 is 64.
func TestBitsOutside(t *testing.T) {
	for _, bits := range []int{0, -1, -8, -64, 65, 66, 72, 128, math.MaxInt32, math.MinInt32, math.MaxInt, math.MinInt} {
		for _, v := range numbers() {
			if got := Sign(v, bits); got != int64(v) {
				t.Fatalf("Sign(%d, %d) = %d", v, bits, got)
			}
			if got, all := Cut(int64(v), bits); got != v || !all {
				t.Fatalf("Cut(%d, %d) = %d, %v", int64(v), bits, got, all)
			}
		}
	}
}

// P1.2: Sign and Cut at each count of bits, by sums and not by shifts.
func TestSignAndCutAtEachWidth(t *testing.T) {
	for bits := 1; bits <= 63; bits++ {
		size := uint64(1) << bits
		for _, v := range numbers() {
			want := int64(v % size)
			if v%size >= size/2 {
				want = -int64(size - v%size)
			}
			if got := Sign(v, bits); got != want {
				t.Fatalf("Sign(%d, %d) = %d, want %d", v, bits, got, want)
			}
			if got, all := Cut(int64(v), bits); got != v%size || all != (want == int64(v)) {
				t.Fatalf("Cut(%d, %d) = %d, %v", int64(v), bits, got, all)
			}
		}
	}
}
