package crc

import (
	"bytes"
	"hash/crc32"
	"strings"
	"testing"
)

// reference sums by the library's table of the same polynomial.
func reference(b []byte) uint32 {
	return crc32.Checksum(b, crc32.MakeTable(crc32.Castagnoli))
}

// texts are some of each length up to 40, of noughts, of ones and without a
// pattern, and two long ones.
func texts() [][]byte {
	l := [][]byte{bytes.Repeat([]byte("hourglass"), 1000), make([]byte, 70000)}
	x := uint64(1)
	for size := range 41 {
		mixed := make([]byte, size)
		for i := range mixed {
			x = x*6364136223846793005 + 1442695040888963407
			mixed[i] = byte(x >> 56)
		}
		l = append(l, make([]byte, size), bytes.Repeat([]byte{255}, size), mixed)
	}
	return l
}

// P2.1: sums that are known.
func TestKnownSums(t *testing.T) {
	rising, falling := make([]byte, 32), make([]byte, 32)
	for i := range rising {
		rising[i], falling[i] = byte(i), byte(31-i)
	}
	for _, c := range []struct {
		text string
		want uint32
	}{
		{"", 0},
		{"123456789", 3808858755},
		{"a", 0xC1D04330},
		{"abc", 0x364B3FB7},
		{"\x00", 0x527D5351},
		{"\xff", 0xFF000000},
		{strings.Repeat("\x00", 32), 0x8A9136AA},
		{strings.Repeat("\xff", 32), 0x62A8AB43},
		{string(rising), 0x46DD794E},
		{string(falling), 0x113FDB5C},
	} {
		if got := Of([]byte(c.text)); got != c.want {
			t.Errorf("Of(%q) = %d, want %d", c.text, got, c.want)
		}
	}
	if got := Of(nil); got != 0 {
		t.Errorf("Of(nil) = %d, want 0", got)
	}
}

// P2.1: each byte alone, and texts of many lengths.
func TestOfAgainstTheLibrary(t *testing.T) {
	for c := range 256 {
		b := []byte{byte(c)}
		if got, want := Of(b), reference(b); got != want {
			t.Errorf("Of(%v) = %d, want %d", b, got, want)
		}
	}
	for _, b := range texts() {
		if got, want := Of(b), reference(b); got != want {
			t.Errorf("Of(%d bytes, %.20q) = %d, want %d", len(b), b, got, want)
		}
	}
}

// P2.1: a sum of 0 is that of nothing, so that Add to it is Of.
func TestAddToNothing(t *testing.T) {
	for _, b := range texts() {
		if got, want := Add(0, b), Of(b); got != want {
			t.Errorf("Add(0, %.20q) = %d, want %d", b, got, want)
		}
	}
}

// P2.1: nothing behind bytes leaves their sum, whatever it is.
func TestAddNothing(t *testing.T) {
	for _, sum := range sums() {
		if got := Add(sum, nil); got != sum {
			t.Errorf("Add(%d, nil) = %d", sum, got)
		}
		if got := Add(sum, []byte{}); got != sum {
			t.Errorf("Add(%d, empty) = %d", sum, got)
		}
	}
}

// sums are any: no sum is wrong, as each is that of some bytes.
func sums() []uint32 {
	l := []uint32{0, 1<<32 - 1, 3808858755, 0x82F63B78, 0x7D09C487}
	for i := range 32 {
		l = append(l, 1<<i, ^uint32(1<<i))
	}
	return l
}

// P2.1: Add goes on from any sum, whether or not Of told it.
func TestAddToAnySum(t *testing.T) {
	table := crc32.MakeTable(crc32.Castagnoli)
	for _, sum := range sums() {
		for _, text := range []string{"\x00", "\xff", "a", "123456789", "\x00\x00\x00\x00", "\xff\xff\xff\xff\xff"} {
			if got, want := Add(sum, []byte(text)), crc32.Update(sum, table, []byte(text)); got != want {
				t.Errorf("Add(%d, %q) = %d, want %d", sum, text, got, want)
			}
		}
	}
}

// P2.1: two parts, parted at each place, with an empty one at either end.
func TestTwoParts(t *testing.T) {
	for _, b := range texts() {
		if len(b) > 100 {
			continue
		}
		want := reference(b)
		for k := range len(b) + 1 {
			if got := Add(Of(b[:k]), b[k:]); got != want {
				t.Errorf("%q parted at %d: %d, want %d", b, k, got, want)
			}
		}
	}
}

// P2.1: many parts, of any sizes, empty ones among them.
func TestManyParts(t *testing.T) {
	for _, b := range texts() {
		for _, sizes := range [][]int{{1}, {0, 1}, {2, 0, 3}, {7, 1, 0, 0, 4}, {64, 5, 0}} {
			sum, rest := Of(nil), b
			for turn := 0; len(rest) > 0; turn++ {
				size := min(sizes[turn%len(sizes)], len(rest))
				sum = Add(sum, rest[:size])
				rest = rest[size:]
			}
			if want := reference(b); sum != want {
				t.Errorf("%d bytes in parts of %v: %d, want %d", len(b), sizes, sum, want)
			}
		}
	}
}

// P2.1: each number of noughts, and of ones, has a sum of its own.
func TestNoughtsAndOnes(t *testing.T) {
	for _, c := range []byte{0, 255} {
		seen := map[uint32]int{}
		for size := range 300 {
			sum := Of(bytes.Repeat([]byte{c}, size))
			if other, ok := seen[sum]; ok {
				t.Errorf("%d and %d bytes %d have one sum", other, size, c)
			}
			seen[sum] = size
		}
	}
}

// P2.1: one bit that is changed is seen.
func TestOneBitChanged(t *testing.T) {
	for _, b := range texts() {
		if len(b) > 100 {
			continue
		}
		want := Of(b)
		for i := range b {
			for k := range 8 {
				other := bytes.Clone(b)
				other[i] ^= 1 << k
				if got := Of(other); got == want || got != reference(other) {
					t.Errorf("bit %d of byte %d of %q: %d beside %d", k, i, b, got, want)
				}
			}
		}
	}
}

// P2.1: two neighbours that are swapped are seen, but where they are alike.
func TestNeighboursSwapped(t *testing.T) {
	for _, b := range texts() {
		if len(b) > 100 {
			continue
		}
		want := Of(b)
		for i := 1; i < len(b); i++ {
			other := bytes.Clone(b)
			other[i-1], other[i] = b[i], b[i-1]
			if alike := b[i-1] == b[i]; (Of(other) == want) != alike {
				t.Errorf("bytes %d and %d of %q swapped: %d beside %d", i-1, i, b, Of(other), want)
			}
		}
	}
}

// R4: neither call changes its list, nor the spare room behind it.
func TestListsAreLeft(t *testing.T) {
	for size := range 20 {
		room := []byte("a list, and the room behind it")
		before := bytes.Clone(room)
		Of(room[:size])
		Add(12345, room[:size])
		Add(0, room[:size])
		if !bytes.Equal(room, before) {
			t.Errorf("a list of %d bytes was changed: %q", size, room)
		}
	}
}

// R4, R5: no list is kept: a sum hangs on what is handed in, each time anew.
func TestNothingIsKept(t *testing.T) {
	b := []byte("123456789")
	first := Of(b)
	b[0] = 'x'
	changed := Of(b)
	b[0] = '1'
	if again := Of(b); first != again || changed == first || Add(0, b) != first {
		t.Errorf("sums of one list: %d, %d, %d", first, changed, again)
	}
}
