package wal

import (
	"fmt"
	"math"
	"math/rand"
	"slices"
	"strings"
	"testing"

	"hourglass/api"
	"hourglass/disk"
	"hourglass/frame"
)

func drive(t *testing.T, room int) *disk.Disk {
	t.Helper()
	d, err := disk.New(room)
	if err != api.OK {
		t.Fatalf("disk.New(%d): %v", room, err)
	}
	return d
}

func opened(t *testing.T, d *disk.Disk, name string) *Log {
	t.Helper()
	l, err := Open(d, name)
	if l == nil || err != api.OK {
		t.Fatalf("Open(%q): %v, %v", name, l, err)
	}
	return l
}

// fresh is a log with no file yet, on a disk of its own.
func fresh(t *testing.T, room int) (*disk.Disk, *Log) {
	t.Helper()
	d := drive(t, room)
	return d, opened(t, d, "log")
}

// ok fails, unless each of the errors is OK.
func ok(t *testing.T, errs ...api.Errno) {
	t.Helper()
	for i, err := range errs {
		if err != api.OK {
			t.Fatalf("number %d: %v", i, err)
		}
	}
}

// list is texts as records.
func list(texts ...string) [][]byte {
	var l [][]byte
	for _, s := range texts {
		l = append(l, []byte(s))
	}
	return l
}

// row is the frames of texts, one behind the other.
func row(texts ...string) string {
	var b []byte
	for _, s := range texts {
		b, _ = frame.Put(b, []byte(s))
	}
	return string(b)
}

// told is the records of a log that is not done, and how many of them are safe.
func told(t *testing.T, l *Log) string {
	t.Helper()
	recs := []string{}
	for i := range l.Len() {
		b, err := l.At(i)
		if err != api.OK {
			t.Fatalf("At(%d) of %d: %v", i, l.Len(), err)
		}
		recs = append(recs, string(b))
	}
	return fmt.Sprintf("%q safe %d", recs, l.Safe())
}

// is fails, unless the log has just these records, and so many are safe.
func is(t *testing.T, what string, l *Log, safe int, recs ...string) {
	t.Helper()
	want := fmt.Sprintf("%q safe %d", append([]string{}, recs...), safe)
	if got := told(t, l); got != want {
		t.Errorf("%s: %.300s; want %.300s", what, got, want)
	}
}

// holds fails, unless the file has just these bytes.
func holds(t *testing.T, what string, d *disk.Disk, name, want string) {
	t.Helper()
	if b, err := d.Read(name); err != api.OK || string(b) != want {
		t.Errorf("%s: file %s: %.300q, %v; want %.300q", what, name, b, err, want)
	}
}

// again crashes the disk, lets the power come back and opens the log anew.
func again(t *testing.T, d *disk.Disk, keep int, torn byte) *Log {
	t.Helper()
	d.Crash(keep, torn)
	d.On()
	return opened(t, d, "log")
}

// badNames are none, each for one cause.
func badNames() []string {
	return []string{"", " ", "a b", "a\n", "\x00", "\x1f", "\x7f", "\xff", "ä", strings.Repeat("n", 21), strings.Repeat("n", 9000)}
}

// P9.1: Open answers the disk's EOFF, with every name, ahead of its EARG.
func TestOpenOff(t *testing.T) {
	d, l := fresh(t, 1000)
	ok(t, l.Add(list("a")...), l.Sync())
	d.Crash(0, 0)
	for _, name := range append(badNames(), "log", "none") {
		if l, err := Open(d, name); l != nil || err != api.EOFF {
			t.Errorf("Open(%.30q) without power: %v, %v", name, l, err)
		}
	}
	d.On()
	holds(t, "Open without power", d, "log", row("a"))
	if n := d.Names(); !slices.Equal(n, []string{"log"}) {
		t.Errorf("Open without power left %v", n)
	}
}

// P9.1: Open answers the disk's EARG of a name that is none, and changes nothing.
func TestOpenBadNames(t *testing.T) {
	d := drive(t, 1000)
	ok(t, d.Append("log", []byte(row("a")+"torn")))
	for _, name := range badNames() {
		if l, err := Open(d, name); l != nil || err != api.EARG {
			t.Errorf("Open(%.30q): %v, %v", name, l, err)
		}
	}
	holds(t, "names that are none", d, "log", row("a")+"torn")
	d.Crash(0, 0)
	d.On()
	holds(t, "names that are none, then a crash", d, "log", "")
}

// P9.1: names at the edges are names.
func TestOpenGoodNames(t *testing.T) {
	for _, name := range []string{"!", "~", "a", "..", strings.Repeat("n", 20)} {
		d := drive(t, 1000)
		l := opened(t, d, name)
		ok(t, l.Add(list("a")...), l.Sync())
		holds(t, "an edge", d, name, row("a"))
		is(t, name, opened(t, d, name), 1, "a")
	}
}

// P9.1: of a file that is not there Open has no record, and makes no file; it
// does not ask for room either.
func TestOpenNone(t *testing.T) {
	d := drive(t, 64)
	ok(t, d.Append("other", make([]byte, 64)))
	l := opened(t, d, "log")
	is(t, "no file", l, 0)
	if n := d.Names(); !slices.Equal(n, []string{"other"}) {
		t.Errorf("Open made %v", n)
	}
	ok(t, l.Sync(), l.Clear(), l.Sync())
	is(t, "no file, Sync and Clear", l, 0)
	if n := d.Names(); !slices.Equal(n, []string{"other"}) {
		t.Errorf("Sync and Clear made %v", n)
	}
}

// openings are what a file may have: whole frames, and what is torn behind.
func openings() []struct {
	recs []string
	torn string
} {
	long := strings.Repeat("l", 8000)
	bad := []byte(row("abc"))
	bad[len(bad)-1] ^= 1
	return []struct {
		recs []string
		torn string
	}{
		{nil, ""}, {[]string{"a"}, ""}, {[]string{""}, ""}, {[]string{"", "", ""}, ""}, {[]string{"a", "", "bc", long, "\x00\xff"}, ""},
		{[]string{"a"}, "x"}, {[]string{"a", ""}, row("b")[:12]}, {[]string{"a", "b"}, row("c")[:1]}, {[]string{"a"}, row("")[:11]},
		{[]string{"a", "b"}, string(bad)}, {[]string{"a"}, string(bad) + row("behind")}, {[]string{long}, row(long)[:8011]},
		{nil, "x"}, {nil, "these bytes are no frame at all"}, {nil, string(bad)}, {nil, string(make([]byte, 50))}, {nil, "x" + row("a", "b")},
		{[]string{"a"}, "\x41\x1f\x00\x00\xbe\xe0\xff\xff" + long + "12345"},
	}
}

// P9.1: Open has the records that Scan tells; what is torn is cut off; all
// that is left is safe, whether it was so ahead or not, also behind a crash.
func TestOpenFiles(t *testing.T) {
	for i, x := range openings() {
		for _, synced := range []bool{false, true} {
			what := fmt.Sprintf("number %d, synced %v", i, synced)
			d := drive(t, 1<<20)
			ok(t, d.Append("log", []byte(row(x.recs...)+x.torn)), d.Append("other", []byte("xyz")))
			if synced {
				ok(t, d.Sync("log"))
			}
			l := opened(t, d, "log")
			is(t, what, l, len(x.recs), x.recs...)
			holds(t, what, d, "log", row(x.recs...))
			if d.Size() != len(row(x.recs...))+3 {
				t.Errorf("%s: Size %d", what, d.Size())
			}
			l = again(t, d, 0, 0)
			is(t, what+", then a crash", l, len(x.recs), x.recs...)
			holds(t, what+", then a crash", d, "log", row(x.recs...))
			holds(t, "Open syncs no other file", d, "other", "")
			ok(t, l.Add(list("new")...), l.Sync())
			is(t, what+", then Add", again(t, d, 0, 1), len(x.recs)+1, append(x.recs, "new")...)
		}
	}
}

// P9.1: two logs of one file, side by side: each has what it was told.
func TestOpenTwice(t *testing.T) {
	d, a := fresh(t, 1000)
	ok(t, a.Add(list("one")...))
	b := opened(t, d, "log")
	is(t, "the first", a, 0, "one")
	is(t, "the second", b, 1, "one")
	ok(t, b.Add(list("two")...), a.Sync())
	is(t, "the first", a, 1, "one")
	is(t, "the second", b, 1, "one", "two")
	is(t, "a third", opened(t, d, "log"), 2, "one", "two")
	if err := b.Add(make([]byte, 990)); err != api.EFULL {
		t.Errorf("Add of too much: %v", err)
	}
	ok(t, a.Add(list("three")...))
	if err := b.Sync(); err != api.EOFF {
		t.Errorf("the second is done: %v", err)
	}
	is(t, "all", opened(t, d, "log"), 3, "one", "two", "three")
}

// P9.1: Add puts one frame a record behind, by one Append.
func TestAdd(t *testing.T) {
	d, l := fresh(t, 1<<20)
	ok(t, l.Add(list("a")...))
	is(t, "one", l, 0, "a")
	holds(t, "one", d, "log", row("a"))
	ok(t, l.Add(list("bc", "", "\x00\xff")...))
	is(t, "several", l, 0, "a", "bc", "", "\x00\xff")
	ok(t, l.Add(nil), l.Add([]byte{}))
	is(t, "empty ones", l, 0, "a", "bc", "", "\x00\xff", "", "")
	ok(t, l.Add(), l.Add([][]byte{}...), l.Add([][]byte(nil)...))
	is(t, "none", l, 0, "a", "bc", "", "\x00\xff", "", "")
	holds(t, "all", d, "log", row("a", "bc", "", "\x00\xff", "", ""))
	ok(t, l.Sync(), l.Add(), l.Add(list("a")...))
	is(t, "behind Sync", l, 6, "a", "bc", "", "\x00\xff", "", "", "a")
}

// P9.1: an Add of no record is an Append of no byte, which has room on a full
// disk too, and behind which the file is there.
func TestAddNone(t *testing.T) {
	d := drive(t, 64)
	ok(t, d.Append("other", make([]byte, 64)))
	l := opened(t, d, "log")
	ok(t, l.Add())
	is(t, "none", l, 0)
	holds(t, "none", d, "log", "")
	ok(t, l.Sync(), l.Add(), l.Clear(), l.Add())
	is(t, "none", l, 0)
}

// P9.1: a record of 8000 bytes is added; one of 8001 is ELIMIT wherever it
// stands, with none added, and the log goes on.
func TestAddLimit(t *testing.T) {
	long, over := strings.Repeat("l", 8000), strings.Repeat("l", 8001)
	for _, recs := range [][]string{{over}, {"a", over}, {over, "a"}, {"a", over, "b"}, {long, "", over}, {over, over}, {strings.Repeat("l", 20000)}} {
		d, l := fresh(t, 1<<20)
		if err := l.Add(list(recs...)...); err != api.ELIMIT {
			t.Errorf("Add of %d: %v", len(recs), err)
		}
		is(t, "refused", l, 0)
		if n := d.Names(); len(n) != 0 {
			t.Errorf("a refused Add made %v", n)
		}
		ok(t, l.Add(list("x", long)...), l.Sync(), l.Add(list("y")...))
		if err := l.Add(list(recs...)...); err != api.ELIMIT {
			t.Errorf("Add of %d: %v", len(recs), err)
		}
		is(t, "refused behind others", l, 2, "x", long, "y")
		holds(t, "refused behind others", d, "log", row("x", long, "y"))
		ok(t, l.Add(list(long, long)...), l.Sync(), l.Clear(), l.Add(nil))
		is(t, "it goes on", l, 0, "")
	}
}

// P9.1: ELIMIT comes ahead of EFULL, and the log is not done by it.
func TestAddLimitAheadOfFull(t *testing.T) {
	_, l := fresh(t, 64)
	for _, recs := range [][][]byte{{make([]byte, 8001)}, {make([]byte, 8000), make([]byte, 8001)}} {
		if err := l.Add(recs...); err != api.ELIMIT {
			t.Errorf("Add: %v", err)
		}
	}
	ok(t, l.Add(list("a")...), l.Sync())
	is(t, "not done", l, 1, "a")
}

// P9.1: frames fill the room to the byte; of one byte more is EFULL, with none
// added, and then the log is done till it is opened anew.
func TestAddFull(t *testing.T) {
	for _, x := range []struct {
		room, other int
		recs        []int
	}{
		{64, 0, []int{52}}, {64, 0, []int{0, 40}}, {64, 10, []int{42}}, {64, 16, []int{8, 4, 0}}, {64, 40, []int{0, 0}},
		{8012, 0, []int{8000}}, {16100, 50, []int{8000, 8000, 14}}, {1 << 20, 1<<20 - 100, []int{88}},
	} {
		for _, more := range []int{0, 1} {
			d := drive(t, x.room)
			ok(t, d.Append("other", make([]byte, x.other+more)))
			l := opened(t, d, "log")
			var recs [][]byte
			for _, n := range x.recs {
				recs = append(recs, make([]byte, n))
			}
			if more == 0 {
				ok(t, l.Add(recs...), l.Sync())
				if l.Len() != len(recs) || l.Safe() != len(recs) || d.Size() != x.room {
					t.Errorf("%v: Len %d, Safe %d, Size %d", x, l.Len(), l.Safe(), d.Size())
				}
				continue
			}
			if err := l.Add(recs...); err != api.EFULL {
				t.Errorf("%v and one byte: %v", x, err)
			}
			off(t, fmt.Sprint(x), l, 0, 0)
			if n := d.Names(); !slices.Equal(n, []string{"other"}) || d.Size() != x.other+1 {
				t.Errorf("%v: %v, Size %d", x, n, d.Size())
			}
		}
	}
}

// off fails, unless each call but Len and Safe is EOFF, with every argument,
// and Len and Safe are these.
func off(t *testing.T, what string, l *Log, length, safe int) {
	t.Helper()
	for range 2 {
		for i, err := range []api.Errno{
			l.Add(), l.Add(nil), l.Add(list("a")...), l.Add(list("a", "bc", "")...), l.Add(make([]byte, 8000)),
			l.Add(make([]byte, 8001)), l.Add(nil, make([]byte, 9000)), l.Sync(), l.Clear(),
		} {
			if err != api.EOFF {
				t.Errorf("%s: number %d: %v", what, i, err)
			}
		}
		for _, n := range []int{math.MinInt, -1, 0, 1, length - 1, length, length + 1, math.MaxInt} {
			if b, err := l.At(n); len(b) != 0 || err != api.EOFF {
				t.Errorf("%s: At(%d): %q, %v", what, n, b, err)
			}
		}
		if l.Len() != length || l.Safe() != safe {
			t.Errorf("%s: Len %d, Safe %d; want %d, %d", what, l.Len(), l.Safe(), length, safe)
		}
	}
}

// P9.1: what makes a log done, each by itself; its calls leave the file alone,
// and one that is opened anew goes on.
func TestDone(t *testing.T) {
	for _, x := range []struct {
		what  string
		do    func(*disk.Disk, *Log)
		power bool
		left  []string
	}{
		{"an Append that was refused", func(d *disk.Disk, l *Log) { l.Add(make([]byte, 989)) }, true, []string{"a", "b", "c"}},
		{"one of several", func(d *disk.Disk, l *Log) { l.Add(nil, make([]byte, 500), make([]byte, 500)) }, true, []string{"a", "b", "c"}},
		{"the power went", func(d *disk.Disk, l *Log) { d.Crash(0, 0) }, false, []string{"a", "b"}},
		{"the power went, all is kept", func(d *disk.Disk, l *Log) { d.Crash(999, 0) }, false, []string{"a", "b", "c"}},
		{"the power went twice", func(d *disk.Disk, l *Log) { d.Crash(0, 1); d.On(); d.Crash(0, 1) }, false, []string{"a", "b"}},
		{"an On behind a Crash", func(d *disk.Disk, l *Log) { d.Crash(5, 1); d.On() }, true, []string{"a", "b"}},
		{"an On behind a Crash, all is kept", func(d *disk.Disk, l *Log) { d.Crash(13, 1); d.On() }, true, []string{"a", "b", "c"}},
		{"an On with the power on", func(d *disk.Disk, l *Log) { d.On() }, true, []string{"a", "b", "c"}},
		{"many", func(d *disk.Disk, l *Log) { d.On(); d.On(); d.Crash(0, 0); d.On() }, true, []string{"a", "b"}},
	} {
		d, l := fresh(t, 1000)
		ok(t, l.Add(list("a", "b")...), l.Sync(), l.Add(list("c")...))
		x.do(d, l)
		off(t, x.what, l, 3, 2)
		if !x.power {
			d.On()
			off(t, x.what+", and On", l, 3, 2)
		}
		if b, _ := d.Read("log"); !strings.HasPrefix(string(b), row(x.left...)) {
			t.Errorf("%s: the file has %q", x.what, b)
		}
		anew := opened(t, d, "log")
		is(t, x.what+", opened anew", anew, len(x.left), x.left...)
		off(t, x.what+", the old one", l, 3, 2)
		holds(t, x.what, d, "log", row(x.left...))
		ok(t, anew.Add(list("d")...), anew.Sync())
		is(t, x.what+", it goes on", anew, len(x.left)+1, append(x.left, "d")...)
	}
}

// P9.1: each call but Len and Safe is EOFF as the first behind what makes the
// log done, with no other that could have found it out.
func TestDoneAtOnce(t *testing.T) {
	at := func(n int) func(*Log) api.Errno {
		return func(l *Log) api.Errno { _, err := l.At(n); return err }
	}
	add := func(recs ...[]byte) func(*Log) api.Errno {
		return func(l *Log) api.Errno { return l.Add(recs...) }
	}
	for i, do := range []func(*disk.Disk, *Log){
		func(d *disk.Disk, l *Log) { l.Add(make([]byte, 1000)) }, func(d *disk.Disk, l *Log) { d.Crash(0, 0) },
		func(d *disk.Disk, l *Log) { d.Crash(99, 0); d.On() }, func(d *disk.Disk, l *Log) { d.On() },
	} {
		for j, call := range []func(*Log) api.Errno{
			at(-1), at(0), at(1), at(2), add(), add(nil), add([]byte("a")), add(make([]byte, 1000)), add(make([]byte, 8001)),
			add(nil, make([]byte, 8001)), (*Log).Sync, (*Log).Clear,
		} {
			d, l := fresh(t, 1000)
			ok(t, l.Add(list("a")...), l.Sync(), l.Add(list("b")...))
			do(d, l)
			if err := call(l); err != api.EOFF || l.Len() != 2 || l.Safe() != 1 {
				t.Errorf("cause %d, call %d: %v, Len %d, Safe %d", i, j, err, l.Len(), l.Safe())
			}
			off(t, fmt.Sprintf("cause %d, behind call %d", i, j), l, 2, 1)
		}
	}
}

// P9.1: a log that is done by EFULL stays so when there is room again.
func TestDoneStays(t *testing.T) {
	d, l := fresh(t, 64)
	ok(t, d.Append("other", make([]byte, 50)), l.Add(nil))
	if err := l.Add(nil); err != api.EFULL {
		t.Errorf("Add: %v", err)
	}
	ok(t, d.Drop("other"))
	off(t, "room again", l, 1, 0)
	holds(t, "room again", d, "log", row(""))
	ok(t, opened(t, d, "log").Add(list("a", "b")...))
}

// P9.1: a log that has no file yet is done by the power too.
func TestDoneWithoutFile(t *testing.T) {
	for _, do := range []func(*disk.Disk){func(d *disk.Disk) { d.Crash(0, 0) }, func(d *disk.Disk) { d.Crash(0, 0); d.On() }, (*disk.Disk).On} {
		d, l := fresh(t, 64)
		do(d)
		off(t, "no file", l, 0, 0)
		if !d.Power() {
			d.On()
		}
		if n := d.Names(); len(n) != 0 {
			t.Errorf("a log that is done made %v", n)
		}
	}
}

// P9.1: a log that is opened late, at a Lives that is not 1, is not done.
func TestOpenLate(t *testing.T) {
	d := drive(t, 64)
	d.On()
	d.On()
	l := opened(t, d, "log")
	ok(t, l.Add(list("a")...), l.Sync())
	is(t, "opened late", l, 1, "a")
	d.On()
	off(t, "one On more", l, 1, 1)
}

// P9.1: Sync makes all records safe: with no file, with some, twice.
func TestSync(t *testing.T) {
	d, l := fresh(t, 1000)
	ok(t, l.Sync(), l.Sync())
	is(t, "no file", l, 0)
	ok(t, l.Add(list("a", "b")...))
	is(t, "Add", l, 0, "a", "b")
	ok(t, l.Sync())
	is(t, "Sync", l, 2, "a", "b")
	ok(t, l.Add(list("c")...), l.Add(nil), l.Sync(), l.Sync(), l.Add(list("d")...))
	is(t, "Sync twice", l, 4, "a", "b", "c", "", "d")
	is(t, "a crash", again(t, d, 0, 7), 4, "a", "b", "c", "")
}

// P9.1: the disk's file that somebody took away is no file: Sync and Clear
// are OK, and make none.
func TestFileIsGone(t *testing.T) {
	for _, do := range []func(*Log) api.Errno{(*Log).Sync, (*Log).Clear} {
		d, l := fresh(t, 1000)
		ok(t, l.Add(list("a")...), d.Drop("log"), do(l))
		if n := d.Names(); len(n) != 0 {
			t.Errorf("it made %v", n)
		}
		ok(t, l.Add(list("b")...), l.Sync())
		is(t, "a new file", again(t, d, 0, 0), 1, "b")
	}
}

// P9.1: Len and Safe behind each call.
func TestLenSafe(t *testing.T) {
	_, l := fresh(t, 1000)
	for i, x := range []struct {
		do        func() api.Errno
		err       api.Errno
		len, safe int
	}{
		{func() api.Errno { return l.Sync() }, 0, 0, 0},
		{func() api.Errno { return l.Add(list("a")...) }, 0, 1, 0},
		{func() api.Errno { return l.Add(list("b", "c")...) }, 0, 3, 0},
		{func() api.Errno { _, err := l.At(2); return err }, 0, 3, 0},
		{func() api.Errno { return l.Sync() }, 0, 3, 3},
		{func() api.Errno { return l.Add() }, 0, 3, 3},
		{func() api.Errno { return l.Add(nil) }, 0, 4, 3},
		{func() api.Errno { return l.Add(nil, make([]byte, 8001)) }, api.ELIMIT, 4, 3},
		{func() api.Errno { _, err := l.At(4); return err }, api.ENONE, 4, 3},
		{func() api.Errno { return l.Clear() }, 0, 0, 0},
		{func() api.Errno { return l.Clear() }, 0, 0, 0},
		{func() api.Errno { _, err := l.At(0); return err }, api.ENONE, 0, 0},
		{func() api.Errno { return l.Add(list("d")...) }, 0, 1, 0},
		{func() api.Errno { return l.Sync() }, 0, 1, 1},
		{func() api.Errno { return l.Add(list("e")...) }, 0, 2, 1},
		{func() api.Errno { return l.Add(make([]byte, 1000)) }, api.EFULL, 2, 1},
		{func() api.Errno { return l.Clear() }, api.EOFF, 2, 1},
		{func() api.Errno { return l.Sync() }, api.EOFF, 2, 1},
	} {
		if err := x.do(); err != x.err || l.Len() != x.len || l.Safe() != x.safe {
			t.Errorf("number %d: %v, Len %d, Safe %d; want %v, %d, %d", i, err, l.Len(), l.Safe(), x.err, x.len, x.safe)
		}
	}
}

// P9.1: At tells a record of 0 to Len less 1; else ENONE, and nothing.
func TestAt(t *testing.T) {
	d, l := fresh(t, 1000)
	for _, n := range []int{math.MinInt, -1, 0, 1, math.MaxInt} {
		if b, err := l.At(n); len(b) != 0 || err != api.ENONE {
			t.Errorf("At(%d) of none: %q, %v", n, b, err)
		}
	}
	ok(t, l.Add(list("a", "", "bc")...))
	for _, l := range []*Log{l, opened(t, d, "log")} {
		for n, want := range []string{"a", "", "bc"} {
			if b, err := l.At(n); string(b) != want || err != api.OK {
				t.Errorf("At(%d): %q, %v", n, b, err)
			}
		}
		for _, n := range []int{math.MinInt, math.MinInt + 1, -3, -1, 3, 4, 1 << 32, math.MaxInt} {
			if b, err := l.At(n); len(b) != 0 || err != api.ENONE {
				t.Errorf("At(%d): %q, %v", n, b, err)
			}
		}
	}
}

// P9.1: Clear leaves none, at once; what is added behind it is as in a new log.
func TestClear(t *testing.T) {
	d, l := fresh(t, 64)
	ok(t, d.Append("other", []byte("xyz")), l.Clear())
	is(t, "no file", l, 0)
	ok(t, l.Add(list("a", "b")...), l.Sync(), l.Add(list("c")...), l.Clear())
	is(t, "Clear", l, 0)
	holds(t, "Clear", d, "log", "")
	holds(t, "Clear", d, "other", "xyz")
	ok(t, l.Add(make([]byte, 49)), l.Clear(), l.Add(list("d")...))
	is(t, "Add behind Clear", l, 0, "d")
	holds(t, "Add behind Clear", d, "log", row("d"))
	is(t, "a crash", again(t, d, 0, 0), 0)
}

// P9.1: behind Clear a crash brings nothing back, and what was added and
// synced there stays.
func TestClearThenCrash(t *testing.T) {
	for _, torn := range []byte{0, 1, 255} {
		d, l := fresh(t, 1000)
		ok(t, l.Add(list("a", "b")...), l.Sync(), l.Add(list("c")...), l.Clear())
		l = again(t, d, 99, torn)
		is(t, "Clear, a crash", l, 0)
		ok(t, l.Add(list("a", "b")...), l.Sync(), l.Clear(), l.Add(list("d")...), l.Sync(), l.Add(list("e")...))
		l = again(t, d, 12, torn)
		is(t, "Clear, Add, Sync, Add, a crash", l, 1, "d")
		ok(t, l.Clear(), l.Add(list("f", "g")...))
		is(t, "Clear, Add, a crash", again(t, d, 25, torn), 1, "f")
	}
}

// The chapter's example.
func TestExample(t *testing.T) {
	d, l := fresh(t, 64)
	ok(t, l.Add(list("a")...), l.Sync(), l.Add(list("b")...))
	d.Crash(0, 0)
	d.On()
	is(t, "the example", opened(t, d, "log"), 1, "a")
}

// R4: what is handed in is as it was, spare room and the outer list too, and
// not kept: neither the log's records nor the file's bytes change with it.
func TestAddLeavesItsLists(t *testing.T) {
	d, l := fresh(t, 1000)
	room := []byte("abcdefgh")
	spare := [][]byte{room[1:3], room[4:4], room[5:7], []byte("spare")}
	ok(t, l.Add(spare[:3]...), l.Add(spare[:1]...), l.Sync(), l.Add(spare[2:3]...))
	if string(room) != "abcdefgh" || string(spare[0]) != "bc" || len(spare[1]) != 0 || string(spare[2]) != "fg" || string(spare[3]) != "spare" {
		t.Errorf("Add left %q, %q", room, spare)
	}
	for i := range room {
		room[i] = '#'
	}
	for i := range spare {
		spare[i] = []byte("spoilt")
	}
	is(t, "lists that are written to", l, 4, "bc", "", "fg", "bc", "fg")
	holds(t, "lists that are written to", d, "log", row("bc", "", "fg", "bc", "fg"))
}

// R4: what At answers is new memory each time, spare room too, of records that
// were added and of those that Open found.
func TestAtIsNew(t *testing.T) {
	d, l := fresh(t, 1000)
	ok(t, l.Add(list("abc", "", "de")...), l.Sync())
	for _, l := range []*Log{l, opened(t, d, "log")} {
		one, _ := l.At(0)
		two, _ := l.At(0)
		for n := range 3 {
			b, _ := l.At(n)
			b = append(b, '+')
			b = b[:cap(b)]
			for i := range b {
				b[i] = '#'
			}
		}
		one = append(one[:1], "####"...)
		if string(two) != "abc" || string(one) != "a####" {
			t.Errorf("two answers: %q, %q", one, two)
		}
		is(t, "an answer that is written to", l, 3, "abc", "", "de")
		holds(t, "an answer that is written to", d, "log", row("abc", "", "de"))
	}
	b, _ := l.At(0)
	ok(t, l.Clear(), l.Add(list("xyz")...))
	if string(b) != "abc" {
		t.Errorf("an answer changed later: %q", b)
	}
}

// P9.1: two logs over two files of one disk share its room and its power, and
// nothing else.
func TestTwoFiles(t *testing.T) {
	d := drive(t, 100)
	a, b := opened(t, d, "a"), opened(t, d, "b")
	ok(t, a.Add(list("one")...), b.Add(list("two", "three")...), a.Sync())
	is(t, "a", a, 1, "one")
	is(t, "b", b, 0, "two", "three")
	ok(t, b.Clear(), b.Add(list("four")...))
	is(t, "a", a, 1, "one")
	holds(t, "a", d, "a", row("one"))
	holds(t, "b", d, "b", row("four"))
	if err := b.Add(make([]byte, 58)); err != api.EFULL {
		t.Errorf("Add past the room: %v", err)
	}
	off(t, "b", b, 1, 0)
	ok(t, a.Add(list("five")...))
	is(t, "a", a, 1, "one", "five")
	d.Crash(0, 0)
	off(t, "a", a, 2, 1)
	d.On()
	is(t, "a", opened(t, d, "a"), 1, "one")
	is(t, "b", opened(t, d, "b"), 0)
}

// P9.1: a log on one disk is not done by another disk's power.
func TestTwoDisks(t *testing.T) {
	d, a := fresh(t, 64)
	_, b := fresh(t, 64)
	ok(t, b.Add(list("b")...))
	d.Crash(0, 0)
	d.On()
	off(t, "a", a, 0, 0)
	ok(t, b.Sync())
	is(t, "b", b, 1, "b")
}

// survives is how many of the records that were not safe a crash leaves.
func survives(recs []string, keep int) int {
	for n := range recs {
		if keep < len(row(recs[:n+1]...)) {
			return n
		}
	}
	return len(recs)
}

// P9.2: each crash of a log with some records safe and others not: Open has a
// beginning; the same behind a second crash.
func TestEachCrash(t *testing.T) {
	safe, loose := []string{"safe", ""}, []string{"one", "", "\x00\xff\x00", "four"}
	all := append(slices.Clone(safe), loose...)
	size := len(row(loose...))
	keeps := []int{math.MinInt, math.MaxInt}
	for keep := -1; keep <= size+1; keep++ {
		keeps = append(keeps, keep)
	}
	for _, keep := range keeps {
		for torn := range 256 {
			d, l := fresh(t, 1000)
			ok(t, l.Add(list(safe...)...), l.Sync(), l.Add(list(loose[:1]...)...), l.Add(list(loose[1:]...)...))
			left := all[:len(safe)+survives(loose, keep)]
			what := fmt.Sprintf("keep %d, torn %d", keep, torn)
			is(t, what, again(t, d, keep, byte(torn)), len(left), left...)
			holds(t, what, d, "log", row(left...))
			l = again(t, d, 0, byte(torn))
			is(t, what+", a second crash", l, len(left), left...)
			ok(t, l.Add(list("more")...), l.Sync())
			is(t, what+", and more", again(t, d, 0, byte(torn)), len(left)+1, append(slices.Clone(left), "more")...)
			if t.Failed() {
				return
			}
		}
	}
}

// plain is a log as the chapter tells it: what was added since the last Clear,
// and how many of them are safe.
type plain struct {
	recs []string
	safe int
}

// step does one call to both.
func step(t *testing.T, r *rand.Rand, d *disk.Disk, l *Log, p *plain) (string, *Log) {
	t.Helper()
	switch r.Intn(8) {
	case 0, 1:
		ok(t, l.Sync())
		p.safe = len(p.recs)
		return "Sync", l
	case 2:
		if r.Intn(3) == 0 {
			ok(t, l.Clear())
			*p = plain{}
		}
		return "Clear", l
	case 3:
		loose := p.recs[p.safe:]
		keep, torn := r.Intn(len(row(loose...))+3)-1, []byte{0, 1, 255}[r.Intn(3)]
		l = again(t, d, keep, torn)
		if r.Intn(2) == 0 {
			l = again(t, d, r.Intn(3)-1, torn)
		}
		p.recs = p.recs[:p.safe+survives(loose, keep)]
		p.safe = len(p.recs)
		return fmt.Sprintf("Crash(%d, %d)", keep, torn), l
	}
	var recs [][]byte
	for range r.Intn(4) {
		rec := make([]byte, r.Intn(20))
		r.Read(rec)
		recs = append(recs, rec)
	}
	ok(t, l.Add(recs...))
	for _, rec := range recs {
		p.recs = append(p.recs, string(rec))
	}
	return fmt.Sprintf("Add(%q)", recs), l
}

// P9.1, P9.2: whatever is called, in whatever order, with crashes in between:
// the log has just what the plain one has.
func TestRuns(t *testing.T) {
	r := rand.New(rand.NewSource(9))
	for range 500 {
		d, l := fresh(t, 1<<16)
		p := &plain{}
		for range 60 {
			what, now := step(t, r, d, l, p)
			l = now
			is(t, what, l, p.safe, p.recs...)
			if d.Size() != len(row(p.recs...)) {
				t.Errorf("%s: Size %d", what, d.Size())
			}
			if t.Failed() {
				return
			}
		}
	}
}

// P9.2: a record whose bytes are frames themselves is one record, and no crash
// lets what stands in it be found.
func TestFramesInRecords(t *testing.T) {
	inner := row("inner", "another")
	for keep := range len(row(inner)) + 1 {
		d, l := fresh(t, 1000)
		ok(t, l.Add(list("a")...), l.Sync(), l.Add(list(inner)...))
		want := []string{"a", inner}[:1+survives([]string{inner}, keep)]
		is(t, fmt.Sprint("keep ", keep), again(t, d, keep, 1), len(want), want...)
	}
}

// R1: Add of very many records ends soon, whether they have room or not, and
// so does one by one.
func TestMany(t *testing.T) {
	d, l := fresh(t, 1<<20)
	ok(t, l.Add(make([][]byte, 87381)...), l.Sync())
	if l.Len() != 87381 || l.Safe() != 87381 || d.Size() != 87381*12 {
		t.Errorf("Len %d, Safe %d, Size %d", l.Len(), l.Safe(), d.Size())
	}
	if err := l.Add(make([][]byte, 1000000)...); err != api.EFULL {
		t.Errorf("Add past the room: %v", err)
	}
	l = opened(t, d, "log")
	ok(t, l.Clear())
	for range 80000 {
		ok(t, l.Add([]byte("x")))
	}
	if l = again(t, d, 1<<20, 0); l.Len() != 80000 {
		t.Errorf("Len %d", l.Len())
	}
}
