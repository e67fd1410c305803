package write

import (
	"slices"
	"strconv"
	"strings"
	"testing"

	"hourglass/api"
)

const (
	long   = 200 // MaxValue
	writes = 16  // MaxWrites
)

// k is the bytes of a text, and noughts behind it, also where that may not be
// a key.
func k(s string) api.Key {
	var x api.Key
	copy(x[:], s)
	return x
}

// many is n writes to unlike keys.
func many(n int) []api.Write {
	var l []api.Write
	for i := range n {
		l = append(l, api.Write{Key: k("m" + strconv.Itoa(i)), Value: strconv.Itoa(i)})
	}
	return l
}

// good are writes that may be, none to a key of many.
func good() []api.Write {
	return []api.Write{
		{Key: k("a")}, {Key: k("a"), Value: "x"}, {Key: k("a"), Value: "\x00"}, {Key: k("a"), Gone: true},
		{Key: k("a"), Value: strings.Repeat("x", long-1)}, {Key: k("a"), Value: strings.Repeat("x", long)}, {Key: k("a"), Value: strings.Repeat("ä", long/2)},
		{Key: k("\x01")}, {Key: k("fifteen bytes..")}, {Key: k("sixteen bytes...")}, {Key: k(strings.Repeat("\xff", 16)), Gone: true},
	}
}

// bad are writes that may not be.
func bad() []api.Write {
	return []api.Write{
		{}, {Value: "x"}, {Gone: true}, {Key: k("\x00a")}, {Key: k("a\x00b")}, {Key: k("a" + strings.Repeat("\x00", 14) + "b")}, {Key: k(strings.Repeat("\x00", 15) + "b")},
		{Key: k("a"), Value: strings.Repeat("x", long+1)}, {Key: k("a"), Value: strings.Repeat("\x00", long+1)}, {Key: k("a"), Value: strings.Repeat("ä", long/2) + "x"},
		{Key: k("a"), Value: "x", Gone: true}, {Key: k("a"), Value: "\x00", Gone: true}, {Key: k("a"), Value: strings.Repeat("x", long+1), Gone: true},
	}
}

// P12.1: one write, by its key, its Value, and whether it is Gone.
func TestGood(t *testing.T) {
	for _, w := range good() {
		if !Good(w) {
			t.Errorf("P12.1: Good(%v) is false", w)
		}
	}
	for _, w := range bad() {
		if Good(w) {
			t.Errorf("P12.1: Good(%v) is true", w)
		}
	}
}

// P12.1: one of many, wherever it stands.
func TestGoodListPlaces(t *testing.T) {
	for _, n := range []int{1, 2, 3, writes} {
		for place := range n {
			l := many(n)
			for _, w := range good() {
				if l[place] = w; !GoodList(l) {
					t.Errorf("P12.1: %v as number %d of %d is refused", w, place, n)
				}
			}
			for _, w := range bad() {
				if l[place] = w; GoodList(l) {
					t.Errorf("P12.1: %v as number %d of %d is taken", w, place, n)
				}
			}
		}
	}
}

// P12.1: none, one to MaxWrites, and more.
func TestGoodListCounts(t *testing.T) {
	if GoodList(nil) || GoodList([]api.Write{}) {
		t.Errorf("P12.1: no write is taken")
	}
	for n := 1; n <= 3*writes; n++ {
		if got := GoodList(many(n)); got != (n <= writes) {
			t.Errorf("P12.1: of %d writes: %v", n, got)
		}
	}
}

// P12.1: a key that stands twice, side by side and apart.
func TestGoodListTwice(t *testing.T) {
	for _, n := range []int{2, 3, writes} {
		for i := range n {
			for j := range i {
				l := many(n)
				l[i].Key = l[j].Key
				if GoodList(l) {
					t.Errorf("P12.1: one key as numbers %d and %d of %d is taken", j, i, n)
				}
				l[i].Value, l[i].Gone = "", true
				if GoodList(l) {
					t.Errorf("P12.1: one key as numbers %d and %d of %d, then Gone, is taken", j, i, n)
				}
			}
		}
	}
}

// R4: the list is as it was, spare room included.
func TestListIsAsItWas(t *testing.T) {
	room := many(writes + 1)
	was := slices.Clone(room)
	for n := range room {
		GoodList(room[:n])
	}
	if !slices.Equal(room, was) {
		t.Errorf("R4: the list was changed: %v", room)
	}
}
