package disk

import (
	"bytes"
	"fmt"
	"maps"
	"math"
	"math/rand"
	"slices"
	"strings"
	"testing"

	"hourglass/api"
)

func made(t *testing.T, room int) *Disk {
	t.Helper()
	d, err := New(room)
	if d == nil || err != api.OK {
		t.Fatalf("New(%d): %v, %v", room, d, err)
	}
	return d
}

// ok fails, unless each of the errors is OK.
func ok(t *testing.T, errs ...api.Errno) {
	t.Helper()
	for i, err := range errs {
		if err != api.OK {
			t.Fatalf("number %d: %v", i, err)
		}
	}
}

// told is all that a disk with power tells: each file, and the count.
func told(t *testing.T, d *Disk) string {
	t.Helper()
	var s strings.Builder
	for _, name := range d.Names() {
		b, err := d.Read(name)
		if err != api.OK {
			t.Fatalf("Read(%q), which Names tells: %v", name, err)
		}
		fmt.Fprintf(&s, "%s=%q ", name, b)
	}
	fmt.Fprint(&s, d.Size())
	return s.String()
}

// is fails, unless the disk tells just that.
func is(t *testing.T, what string, d *Disk, want string) {
	t.Helper()
	if got := told(t, d); got != want {
		t.Errorf("%s: %s; want %s", what, got, want)
	}
}

// safe fails, unless the disk tells just that behind a crash that keeps nothing.
func safe(t *testing.T, what string, d *Disk, want string) {
	t.Helper()
	d.Crash(0, 0)
	d.On()
	is(t, what+", then a crash", d, want)
}

// calls are the calls that take a name, each with that name.
func calls(d *Disk, name string) map[string]api.Errno {
	b, err := d.Read(name)
	if b != nil && err != api.OK {
		err = -1
	}
	return map[string]api.Errno{
		"Append": d.Append(name, nil), "Sync": d.Sync(name), "Read": err,
		"Cut": d.Cut(name, 0), "Cut below": d.Cut(name, -1), "Drop": d.Drop(name),
		"Rename from": d.Rename(name, "other"), "Rename to": d.Rename("a", name), "Rename over itself": d.Rename(name, name),
		"Rename of none": d.Rename("none", name),
	}
}

// badNames are none, each for one cause.
func badNames() []string {
	l := []string{"", strings.Repeat("n", 21), strings.Repeat("n", 1000), "\xff", "ä", "a\n", "\x00", strings.Repeat("n", 20) + " "}
	for _, c := range []byte{0, 31, 32, 127, 128, 255} {
		one := string([]byte{c})
		l = append(l, one, "a"+one, one+"a", "a"+one+"b", strings.Repeat("n", 19)+one)
	}
	return l
}

// goodNames are at each edge.
func goodNames() []string {
	return []string{"a", "!", "~", "!~", "a.log", "..", "/", strings.Repeat("n", 20), strings.Repeat("~", 20), strings.Repeat("!", 19)}
}

// P8.1: New takes a room from 64 to 2^20; the disk is empty, its power on.
func TestNew(t *testing.T) {
	for _, room := range []int{64, 65, 1000, 1048575, 1048576} {
		d := made(t, room)
		if !d.Power() || d.Lives() != 1 {
			t.Errorf("New(%d): Power %v, Lives %d", room, d.Power(), d.Lives())
		}
		is(t, "New", d, "0")
	}
	for _, room := range []int{63, 1048577, 0, 1, -1, -64, 1 << 21, math.MinInt, math.MaxInt} {
		if d, err := New(room); d != nil || err != api.EARG {
			t.Errorf("New(%d): %v, %v", room, d, err)
		}
	}
}

// R5: two disks have nothing in common.
func TestTwoDisks(t *testing.T) {
	a, b := made(t, 64), made(t, 64)
	ok(t, a.Append("a", []byte("xyz")))
	a.Crash(0, 0)
	a.On()
	if !b.Power() || b.Lives() != 1 {
		t.Errorf("the second: Power %v, Lives %d", b.Power(), b.Lives())
	}
	is(t, "the second", b, "0")
}

// P8.1: a name that is none is EARG of every call, and nothing changes.
func TestBadNames(t *testing.T) {
	for _, name := range badNames() {
		d := made(t, 64)
		ok(t, d.Append("a", []byte("xyz")), d.Sync("a"))
		for call, err := range calls(d, name) {
			if err != api.EARG {
				t.Errorf("%s, %q: %v", call, name, err)
			}
		}
		if err := d.Append(name, make([]byte, 62)); err != api.EARG {
			t.Errorf("Append of too much, %q: %v", name, err)
		}
		is(t, "names that are none", d, `a="xyz" 3`)
		safe(t, "names that are none", d, `a="xyz" 3`)
	}
}

// P8.1: names at the edges are names.
func TestGoodNames(t *testing.T) {
	names := goodNames()
	for c := byte(33); c <= 126; c++ {
		names = append(names, string([]byte{c}))
	}
	for _, name := range names {
		d := made(t, 64)
		ok(t, d.Append(name, []byte("xyz")), d.Sync(name), d.Cut(name, 2))
		is(t, name, d, name+`="xy" 2`)
		ok(t, d.Rename(name, "other.name"), d.Rename("other.name", name))
		safe(t, name, d, name+`="xy" 2`)
		ok(t, d.Drop(name))
		is(t, name, d, "0")
	}
}

// P8.1: a file that is not there is ENONE, of a name that is one, ahead of a
// count that may not be.
func TestNone(t *testing.T) {
	d := made(t, 64)
	ok(t, d.Append("a", []byte("xyz")))
	b, err := d.Read("q")
	if b != nil {
		t.Errorf("Read of none: %v", b)
	}
	for i, err := range []api.Errno{err, d.Sync("q"), d.Cut("q", 0), d.Cut("q", -1), d.Cut("q", 99), d.Rename("q", "a"), d.Rename("q", "r"), d.Rename("q", "q"), d.Drop("q"), d.Sync("A"), d.Drop("aa")} {
		if err != api.ENONE {
			t.Errorf("number %d: %v", i, err)
		}
	}
	is(t, "none", d, `a="xyz" 3`)
}

// P8.1: Append puts bytes behind the file, which is there at once.
func TestAppend(t *testing.T) {
	d := made(t, 64)
	ok(t, d.Append("b", []byte("one")))
	is(t, "a new file", d, `b="one" 3`)
	ok(t, d.Append("b", []byte("two")), d.Append("a", []byte{0, 255}))
	is(t, "behind it", d, `a="\x00\xff" b="onetwo" 8`)
	ok(t, d.Append("b", nil), d.Append("b", []byte{}), d.Append("c", nil), d.Append("d", []byte{}))
	is(t, "nothing", d, `a="\x00\xff" b="onetwo" c="" d="" 8`)
	safe(t, "files are there at once, their bytes are not safe", d, `a="" b="" c="" d="" 0`)
}

// P8.1: EFULL one byte past the room, of all files together; then nothing
// changes, no file is made.
func TestFull(t *testing.T) {
	for _, room := range []int{64, 65, 1 << 20} {
		d := made(t, room)
		for _, n := range []int{room + 1, room + 2, 2 * room} {
			if err := d.Append("a", make([]byte, n)); err != api.EFULL {
				t.Errorf("room %d, Append of %d: %v", room, n, err)
			}
		}
		is(t, "too much", d, "0")
		ok(t, d.Append("a", make([]byte, room-10)), d.Append("b", make([]byte, 7)))
		for _, name := range []string{"a", "b", "c"} {
			if err := d.Append(name, make([]byte, 4)); err != api.EFULL {
				t.Errorf("room %d, Append(%s) of 4 with 3 left: %v", room, name, err)
			}
		}
		if d.Size() != room-3 || !slices.Equal(d.Names(), []string{"a", "b"}) {
			t.Errorf("room %d: Size %d, Names %v", room, d.Size(), d.Names())
		}
		ok(t, d.Append("c", make([]byte, 3)), d.Append("c", nil), d.Append("d", nil))
		for _, name := range []string{"a", "c", "e"} {
			if err := d.Append(name, []byte("x")); err != api.EFULL {
				t.Errorf("room %d, Append(%s) to the full: %v", room, name, err)
			}
		}
		if d.Size() != room || !slices.Equal(d.Names(), []string{"a", "b", "c", "d"}) {
			t.Errorf("room %d: Size %d, Names %v", room, d.Size(), d.Names())
		}
	}
}

// fills fails, unless just so many bytes have room.
func fills(t *testing.T, what string, d *Disk, n int) {
	t.Helper()
	if err := d.Append("more", make([]byte, n+1)); err != api.EFULL {
		t.Errorf("%s: Append of %d: %v", what, n+1, err)
	}
	if err := d.Append("more", make([]byte, n)); err != api.OK {
		t.Errorf("%s: Append of %d: %v", what, n, err)
	}
	if d.Size() != 64 {
		t.Errorf("%s: Size %d", what, d.Size())
	}
}

// P8.1: Cut, Drop, Rename over a file, and a crash give room back; a Rename
// that is over none, or over itself, does not.
func TestRoomComesBack(t *testing.T) {
	for _, x := range []struct {
		what string
		do   func(*Disk)
		left int
	}{
		{"nothing", func(d *Disk) {}, 14},
		{"Cut", func(d *Disk) { d.Cut("a", 12) }, 32},
		{"Cut to 0", func(d *Disk) { d.Cut("a", 0) }, 44},
		{"Cut to all", func(d *Disk) { d.Cut("a", 30) }, 14},
		{"Drop", func(d *Disk) { d.Drop("a") }, 44},
		{"Rename over another", func(d *Disk) { d.Rename("b", "a") }, 44},
		{"Rename over the other", func(d *Disk) { d.Rename("a", "b") }, 34},
		{"Rename over none", func(d *Disk) { d.Rename("a", "c") }, 14},
		{"Rename over itself", func(d *Disk) { d.Rename("a", "a") }, 14},
		{"Crash", func(d *Disk) { d.Crash(0, 0); d.On() }, 44},
		{"Crash that keeps 7", func(d *Disk) { d.Crash(7, 0); d.On() }, 37},
		{"Crash that keeps 7, torn", func(d *Disk) { d.Crash(7, 1); d.On() }, 36},
		{"Crash that keeps all", func(d *Disk) { d.Crash(30, 1); d.On() }, 14},
		{"refusals", func(d *Disk) { d.Cut("a", 31); d.Cut("a", -1); d.Drop("c"); d.Rename("c", "a"); d.Rename("a", "") }, 14},
	} {
		d := made(t, 64)
		ok(t, d.Append("b", make([]byte, 20)), d.Sync("b"), d.Append("a", make([]byte, 30)))
		x.do(d)
		if d.Size() != 64-x.left {
			t.Errorf("%s: Size %d", x.what, d.Size())
		}
		fills(t, x.what, d, x.left)
	}
}

// P8.1: Sync makes all bytes of that file safe, of no other.
func TestSync(t *testing.T) {
	d := made(t, 64)
	ok(t, d.Append("a", []byte("one")), d.Append("b", []byte("two")), d.Append("c", nil), d.Sync("a"), d.Sync("c"), d.Append("a", []byte("x")), d.Append("c", []byte("y")))
	is(t, "Sync", d, `a="onex" b="two" c="y" 8`)
	safe(t, "Sync", d, `a="one" b="" c="" 3`)
	ok(t, d.Append("a", []byte("y")), d.Sync("a"), d.Sync("a"))
	safe(t, "Sync twice", d, `a="oney" b="" c="" 4`)
}

// P8.1: Read tells what is not synced too, and no byte.
func TestRead(t *testing.T) {
	d := made(t, 64)
	ok(t, d.Append("a", nil))
	if b, err := d.Read("a"); len(b) != 0 || err != api.OK {
		t.Errorf("Read of no byte: %v, %v", b, err)
	}
	ok(t, d.Append("a", []byte("xy")), d.Sync("a"), d.Append("a", []byte("z")))
	for range 2 {
		if b, err := d.Read("a"); string(b) != "xyz" || err != api.OK {
			t.Errorf("Read: %q, %v", b, err)
		}
	}
	safe(t, "Read", d, `a="xy" 2`)
}

// P8.1: Cut leaves the first n, at once; of them those are safe that were.
func TestCut(t *testing.T) {
	for _, x := range []struct {
		n           int
		err         api.Errno
		left, stays string
	}{
		{0, 0, "", ""}, {1, 0, "s", "s"}, {3, 0, "saf", "saf"}, {4, 0, "safe", "safe"},
		{5, 0, "safel", "safe"}, {8, 0, "safelate", "safe"}, {9, 0, "safelater", "safe"},
		{10, api.EARG, "safelater", "safe"}, {-1, api.EARG, "safelater", "safe"},
		{math.MaxInt, api.EARG, "safelater", "safe"}, {math.MinInt, api.EARG, "safelater", "safe"},
	} {
		d := made(t, 64)
		ok(t, d.Append("a", []byte("safe")), d.Sync("a"), d.Append("a", []byte("later")), d.Append("b", []byte("other")), d.Sync("b"))
		if err := d.Cut("a", x.n); err != x.err {
			t.Errorf("Cut(%d): %v", x.n, err)
		}
		is(t, "Cut", d, fmt.Sprintf(`a=%q b="other" %d`, x.left, len(x.left)+5))
		safe(t, "Cut", d, fmt.Sprintf(`a=%q b="other" %d`, x.stays, len(x.stays)+5))
	}
}

// P8.1: what is put behind a Cut is not safe, though bytes there were.
func TestAppendBehindCut(t *testing.T) {
	d := made(t, 64)
	ok(t, d.Append("a", []byte("abcdef")), d.Sync("a"), d.Cut("a", 2), d.Append("a", []byte("XYZ")))
	is(t, "Append behind Cut", d, `a="abXYZ" 5`)
	d.Crash(1, 0)
	d.On()
	is(t, "Append behind Cut, then a crash", d, `a="abX" 3`)
	ok(t, d.Cut("a", 0), d.Cut("a", 0), d.Append("a", []byte("q")))
	safe(t, "Append behind Cut to 0", d, `a="" 0`)
	if err := d.Cut("a", 1); err != api.EARG {
		t.Errorf("Cut to 1 of no byte: %v", err)
	}
}

// P8.1: Rename, at once: what was safe is, what was not is not.
func TestRename(t *testing.T) {
	for _, x := range []struct{ from, to, now, then string }{
		{"a", "a", `a="abcd" b="efg" 7`, `a="ab" b="e" 3`},
		{"b", "b", `a="abcd" b="efg" 7`, `a="ab" b="e" 3`},
		{"a", "c", `b="efg" c="abcd" 7`, `b="e" c="ab" 3`},
		{"a", "A", `A="abcd" b="efg" 7`, `A="ab" b="e" 3`},
		{"a", "b", `b="abcd" 4`, `b="ab" 2`},
		{"b", "a", `a="efg" 3`, `a="e" 1`},
	} {
		d := made(t, 64)
		ok(t, d.Append("a", []byte("ab")), d.Sync("a"), d.Append("a", []byte("cd")), d.Append("b", []byte("e")), d.Sync("b"), d.Append("b", []byte("fg")))
		ok(t, d.Rename(x.from, x.to))
		is(t, x.from+" to "+x.to, d, x.now)
		safe(t, x.from+" to "+x.to, d, x.then)
	}
}

// P8.1: a Rename that is over a file that is safe, all of it, leaves none of it.
func TestRenameOverSafe(t *testing.T) {
	d := made(t, 64)
	ok(t, d.Append("new", []byte("n")), d.Append("old", []byte("longer")), d.Sync("old"), d.Rename("new", "old"))
	if err := d.Sync("new"); err != api.ENONE {
		t.Errorf("the old name: %v", err)
	}
	is(t, "over one that is safe", d, `old="n" 1`)
	safe(t, "over one that is safe", d, `old="" 0`)
	ok(t, d.Append("new", nil), d.Append("old", []byte("x")), d.Rename("new", "old"))
	is(t, "no byte over some", d, `old="" 0`)
}

// P8.1: EARG of either name, ahead of ENONE; nothing changes.
func TestRenameBadNames(t *testing.T) {
	d := made(t, 64)
	ok(t, d.Append("a", []byte("xyz")))
	for _, bad := range badNames() {
		for _, x := range [][2]string{{bad, "a"}, {"a", bad}, {bad, bad}, {"none", bad}, {bad, "none"}} {
			if err := d.Rename(x[0], x[1]); err != api.EARG {
				t.Errorf("Rename(%q, %q): %v", x[0], x[1], err)
			}
		}
	}
	is(t, "Rename with EARG", d, `a="xyz" 3`)
}

// P8.1: Drop, at once; one of the same name is new.
func TestDrop(t *testing.T) {
	d := made(t, 64)
	ok(t, d.Append("a", []byte("xyz")), d.Sync("a"), d.Append("b", []byte("b")), d.Sync("b"), d.Drop("a"))
	is(t, "Drop", d, `b="b" 1`)
	for i, err := range []api.Errno{d.Drop("a"), d.Sync("a"), d.Cut("a", 0), d.Rename("a", "b")} {
		if err != api.ENONE {
			t.Errorf("behind Drop, number %d: %v", i, err)
		}
	}
	safe(t, "Drop", d, `b="b" 1`)
	ok(t, d.Append("a", []byte("pq")))
	is(t, "Append behind Drop", d, `a="pq" b="b" 3`)
	safe(t, "Append behind Drop", d, `a="" b="b" 1`)
}

// P8.1: Names are rising by their bytes, behind each call.
func TestNames(t *testing.T) {
	d := made(t, 64)
	if n := d.Names(); len(n) != 0 {
		t.Errorf("Names of none: %v", n)
	}
	for _, name := range []string{"b", "a", "B", "ab", "aa", "~", "!", "10", "9", "a.", strings.Repeat("a", 20)} {
		ok(t, d.Append(name, nil))
	}
	is := func(what, want string) {
		t.Helper()
		if got := strings.Join(d.Names(), " "); got != want {
			t.Errorf("Names %s: %s; want %s", what, got, want)
		}
	}
	is("of many", "! 10 9 B a a. aa aaaaaaaaaaaaaaaaaaaa ab b ~")
	ok(t, d.Sync("a"), d.Cut("a", 0), d.Drop("aa"), d.Drop("!"), d.Rename("10", "c"), d.Rename("9", "B"))
	is("behind each call", "B a a. aaaaaaaaaaaaaaaaaaaa ab b c ~")
	d.Crash(0, 0)
	if n := d.Names(); len(n) != 0 {
		t.Errorf("Names without power: %v", n)
	}
	d.On()
	is("behind a crash", "B a a. aaaaaaaaaaaaaaaaaaaa ab b c ~")
	n := d.Names()
	for i := range n {
		n[i] = "spoilt"
	}
	_ = append(n, "spoilt")
	is("when the list was written to", "B a a. aaaaaaaaaaaaaaaaaaaa ab b c ~")
}

// R4: a list that is handed in is as it was, spare room too, and not kept,
// not by a file that is made and not by one that is there.
func TestAppendLeavesItsList(t *testing.T) {
	d := made(t, 64)
	room := []byte("abcdefgh")
	part := room[2:5]
	ok(t, d.Append("a", part), d.Append("a", part), d.Append("b", nil), d.Append("b", part), d.Append("a", []byte("!")))
	d.Crash(2, 255)
	if string(room) != "abcdefgh" {
		t.Errorf("Append left %q", room)
	}
	d.On()
	for i := range room {
		room[i] = '#'
	}
	is(t, "a list that is written to", d, `a="cd\x9a" b="cd\x9a" 6`)
}

// R4: what Read answers is new memory, spare room too.
func TestReadIsNew(t *testing.T) {
	d := made(t, 64)
	ok(t, d.Append("a", []byte("abcde")), d.Sync("a"), d.Cut("a", 3), d.Append("a", []byte("f")))
	one, _ := d.Read("a")
	two, _ := d.Read("a")
	for _, b := range [][]byte{one, two[:2]} {
		b = b[:cap(b)]
		for i := range b {
			b[i] = '#'
		}
	}
	is(t, "an answer that is written to", d, `a="abcf" 4`)
	three, _ := d.Read("a")
	ok(t, d.Append("a", []byte("g")), d.Cut("a", 0), d.Append("a", []byte("12345678")))
	d.Crash(0, 1)
	if string(three) != "abcf" {
		t.Errorf("an answer changed later: %q", three)
	}
}

// P8.2: what a crash leaves of a file with some safe, with none, with all.
func TestCrash(t *testing.T) {
	for _, x := range []struct {
		keep       int
		torn       byte
		some, none string
	}{
		{0, 0, "safe", ""}, {-1, 0, "safe", ""}, {math.MinInt, 0, "safe", ""},
		{0, 1, "safem", "n"}, {-1, 1, "safem", "n"}, {math.MinInt, 255, "safe\x93", "\x90"},
		{1, 0, "safel", "o"}, {1, 1, "safel\x60", "oo"}, {1, 255, "safel\x9e", "o\x91"},
		{2, 0, "safela", "on"}, {3, 0, "safelat", "onl"}, {3, 1, "safelatd", "onlx"},
		{4, 0, "safelate", "only"}, {4, 1, "safelates", "only"}, {4, 255, "safelate\x8d", "only"},
		{5, 0, "safelater", "only"}, {5, 1, "safelater", "only"}, {6, 255, "safelater", "only"},
		{math.MaxInt, 0, "safelater", "only"}, {math.MaxInt, 1, "safelater", "only"}, {math.MaxInt - 3, 255, "safelater", "only"},
	} {
		d := made(t, 64)
		ok(t, d.Append("some", []byte("safe")), d.Sync("some"), d.Append("some", []byte("later")))
		ok(t, d.Append("none", []byte("only")), d.Append("all", []byte("whole")), d.Sync("all"), d.Append("empty", nil))
		d.Crash(x.keep, x.torn)
		d.On()
		want := fmt.Sprintf(`all="whole" empty="" none=%q some=%q %d`, x.none, x.some, 5+len(x.none)+len(x.some))
		is(t, fmt.Sprintf("Crash(%d, %d)", x.keep, x.torn), d, want)
		d.Crash(0, 255)
		d.On()
		is(t, "all is safe, and another crash", d, want)
	}
}

// P8.2: the chapter's example.
func TestExample(t *testing.T) {
	d := made(t, 64)
	ok(t, d.Append("a", []byte("xyz")))
	d.Crash(1, 1)
	d.On()
	if b, err := d.Read("a"); !bytes.Equal(b, []byte{120, 120}) || err != api.OK {
		t.Errorf("Read: %v, %v", b, err)
	}
}

// P8.2: behind a crash one writes on, and what is new is not safe.
func TestAppendBehindCrash(t *testing.T) {
	d := made(t, 64)
	ok(t, d.Append("a", []byte("abcdef")))
	d.Crash(2, 1)
	d.On()
	ok(t, d.Append("a", []byte("xyz")))
	is(t, "Append behind a crash", d, `a="abbxyz" 6`)
	d.Crash(1, 0)
	d.On()
	is(t, "another crash", d, `a="abbx" 4`)
	ok(t, d.Cut("a", 1), d.Append("a", []byte("s")), d.Sync("a"), d.Append("a", []byte("t")))
	safe(t, "Sync behind crashes", d, `a="as" 2`)
}

// P8.2: without power each call is EOFF, with every argument, and nothing
// changes; Size is 0, Names are none.
func TestOff(t *testing.T) {
	d := made(t, 64)
	ok(t, d.Append("a", []byte("xyz")), d.Sync("a"), d.Append("other", nil))
	d.Crash(0, 0)
	for _, name := range append(badNames(), "a", "none", "other") {
		for call, err := range calls(d, name) {
			if err != api.EOFF {
				t.Errorf("%s, %q: %v", call, name, err)
			}
		}
		if b, err := d.Read(name); b != nil || err != api.EOFF {
			t.Errorf("Read(%q): %v, %v", name, b, err)
		}
		for i, err := range []api.Errno{d.Append(name, make([]byte, 65)), d.Append(name, []byte("x")), d.Cut(name, 99), d.Cut(name, 2)} {
			if err != api.EOFF {
				t.Errorf("%q, number %d: %v", name, i, err)
			}
		}
		if d.Size() != 0 || len(d.Names()) != 0 || d.Power() || d.Lives() != 1 {
			t.Errorf("Size %d, Names %v, Power %v, Lives %d", d.Size(), d.Names(), d.Power(), d.Lives())
		}
	}
	d.On()
	is(t, "calls without power", d, `a="xyz" other="" 3`)
}

// P8.2: a crash without power takes nothing more.
func TestCrashTwice(t *testing.T) {
	d := made(t, 64)
	ok(t, d.Append("a", []byte("abcdef")))
	d.Crash(3, 1)
	d.Crash(0, 0)
	d.Crash(1, 255)
	if d.Power() || d.Lives() != 1 {
		t.Errorf("Power %v, Lives %d", d.Power(), d.Lives())
	}
	d.On()
	is(t, "two crashes", d, `a="abce" 4`)
}

// P8.2: Lives counts each On, with power and without; an On with power makes
// nothing safe and loses nothing.
func TestLives(t *testing.T) {
	d := made(t, 64)
	ok(t, d.Append("a", []byte("xyz")))
	for i, x := range []struct {
		do    func()
		power bool
		lives int
	}{
		{func() {}, true, 1}, {d.On, true, 2}, {d.On, true, 3},
		{func() { d.Append("a", []byte("w")) }, true, 3},
		{func() { is(t, "On with power", d, `a="xyzw" 4`) }, true, 3},
		{func() { d.Crash(1, 0) }, false, 3}, {func() { d.Crash(0, 0) }, false, 3}, {d.On, true, 4},
		{func() { is(t, "On behind a crash", d, `a="x" 1`) }, true, 4},
		{d.On, true, 5}, {func() { d.Crash(0, 0) }, false, 5}, {d.On, true, 6},
	} {
		x.do()
		if d.Power() != x.power || d.Lives() != x.lives {
			t.Errorf("number %d: Power %v, Lives %d", i, d.Power(), d.Lives())
		}
	}
}

// P8.2: each byte that may be torn, by each torn.
func TestTorn(t *testing.T) {
	for torn := 0; torn < 256; torn++ {
		for _, b := range []byte{0, 1, 127, 128, 255} {
			d := made(t, 64)
			ok(t, d.Append("a", []byte{b, b, b}))
			d.Crash(1, byte(torn))
			d.On()
			want := []byte{b, b ^ byte(torn)}
			if torn == 0 {
				want = want[:1]
			}
			if got, _ := d.Read("a"); !bytes.Equal(got, want) {
				t.Errorf("%d torn by %d: %v", b, torn, got)
			}
		}
	}
}

// plain is a disk as the chapter tells it, of texts: what is safe of a file,
// and all of it.
type plain struct {
	files map[string][2]string
	room  int
	off   bool
	lives int
}

func (p *plain) size() int {
	n := 0
	for _, f := range p.files {
		n += len(f[1])
	}
	return n
}

// refuses is the error that calls on a file share.
func (p *plain) refuses(name string, must bool) api.Errno {
	_, there := p.files[name]
	switch {
	case p.off:
		return api.EOFF
	case len(name) < 1 || len(name) > 20 || strings.ContainsFunc(name, func(r rune) bool { return r < 33 || r > 126 }):
		return api.EARG
	case must && !there:
		return api.ENONE
	}
	return api.OK
}

func (p *plain) append(name, b string) api.Errno {
	if err := p.refuses(name, false); err != api.OK {
		return err
	}
	if p.size()+len(b) > p.room {
		return api.EFULL
	}
	f := p.files[name]
	p.files[name] = [2]string{f[0], f[1] + b}
	return api.OK
}

func (p *plain) cut(name string, n int) api.Errno {
	if err := p.refuses(name, true); err != api.OK {
		return err
	}
	f := p.files[name]
	if n < 0 || n > len(f[1]) {
		return api.EARG
	}
	p.files[name] = [2]string{f[0][:min(n, len(f[0]))], f[1][:n]}
	return api.OK
}

func (p *plain) rename(old, name string) api.Errno {
	if err := p.refuses(name, false); err != api.OK {
		return err
	}
	if err := p.refuses(old, true); err != api.OK {
		return err
	}
	f := p.files[old]
	delete(p.files, old)
	p.files[name] = f
	return api.OK
}

func (p *plain) crash(keep int, torn byte) {
	p.off = true
	for _, name := range slices.Collect(maps.Keys(p.files)) {
		left, rest := p.files[name][0], p.files[name][1][len(p.files[name][0]):]
		for i := 0; i < keep && rest != ""; i++ {
			left, rest = left+rest[:1], rest[1:]
		}
		if rest != "" && torn != 0 {
			left += string([]byte{rest[0] ^ torn})
		}
		p.files[name] = [2]string{left, left}
	}
}

// step does one call to both, and tells whether they answer alike.
func step(r *rand.Rand, d *Disk, p *plain) (string, bool) {
	names := []string{"a", "b", "c", "d", "", "e f"}
	name, other := names[r.Intn(len(names))], names[r.Intn(len(names))]
	n := r.Intn(30) - 1
	b := make([]byte, max(n, 0))
	r.Read(b)
	switch r.Intn(9) {
	case 0:
		return fmt.Sprintf("Cut(%q, %d)", name, n), d.Cut(name, n) == p.cut(name, n)
	case 1:
		return fmt.Sprintf("Rename(%q, %q)", name, other), d.Rename(name, other) == p.rename(name, other)
	case 2:
		err := p.refuses(name, true)
		if err == api.OK {
			delete(p.files, name)
		}
		return fmt.Sprintf("Drop(%q)", name), d.Drop(name) == err
	case 3, 4:
		err := p.refuses(name, true)
		if err == api.OK {
			p.files[name] = [2]string{p.files[name][1], p.files[name][1]}
		}
		return fmt.Sprintf("Sync(%q)", name), d.Sync(name) == err
	case 5:
		keep, torn := r.Intn(12)-1, byte(r.Intn(3))
		if r.Intn(3) == 0 {
			d.Crash(keep, torn)
			p.crash(keep, torn)
		}
		return fmt.Sprintf("Crash(%d, %d)", keep, torn), true
	case 6:
		if p.off || r.Intn(9) == 0 {
			d.On()
			p.off, p.lives = false, p.lives+1
		}
		return "On", true
	}
	return fmt.Sprintf("Append(%q, %q)", name, b), d.Append(name, b) == p.append(name, string(b))
}

// alike fails, unless both tell the same of everything.
func alike(t *testing.T, what string, d *Disk, p *plain) {
	t.Helper()
	if d.Power() == p.off || d.Lives() != p.lives {
		t.Fatalf("%s: Power %v, Lives %d; want %v, %d", what, d.Power(), d.Lives(), !p.off, p.lives)
	}
	size, names := p.size(), slices.Sorted(maps.Keys(p.files))
	if p.off {
		size, names = 0, nil
	}
	if d.Size() != size || !slices.Equal(d.Names(), names) {
		t.Fatalf("%s: Size %d, Names %v; want %d, %v", what, d.Size(), d.Names(), size, names)
	}
	for _, name := range []string{"a", "b", "c", "d", "", "e f"} {
		b, err := d.Read(name)
		want, wrong := p.files[name][1], p.refuses(name, true)
		if wrong != api.OK {
			want = ""
		}
		if err != wrong || string(b) != want {
			t.Fatalf("%s: Read(%q): %q, %v; want %q, %v", what, name, b, err, want, wrong)
		}
	}
}

// P8.1, P8.2: whatever is called, in whatever order, all is as the plain disk
// has it.
func TestRuns(t *testing.T) {
	r := rand.New(rand.NewSource(8))
	for range 400 {
		d, p := made(t, 100), &plain{files: map[string][2]string{}, room: 100, lives: 1}
		for range 150 {
			what, same := step(r, d, p)
			if !same {
				t.Fatalf("%s: another error", what)
			}
			alike(t, what, d, p)
		}
	}
}

// R1: many files of no byte, and a long file that is grown byte by byte, end soon.
func TestMany(t *testing.T) {
	d := made(t, 1<<20)
	for i := range 20000 {
		ok(t, d.Append(fmt.Sprint("f", i), nil))
	}
	for range 1 << 20 {
		ok(t, d.Append("long", []byte{7}))
	}
	if err := d.Append("long", []byte{7}); err != api.EFULL {
		t.Errorf("Append to the full: %v", err)
	}
	if n := len(d.Names()); n != 20001 || d.Size() != 1<<20 {
		t.Errorf("%d names, Size %d", n, d.Size())
	}
}
