package frame

import (
	"bytes"
	"encoding/binary"
	"hash/crc32"
	"strings"
	"testing"

	"hourglass/api"
)

// mixed tells bytes without a pattern.
func mixed(size int, seed uint64) []byte {
	b := make([]byte, size)
	for i := range b {
		seed = seed*6364136223846793005 + 1442695040888963407
		b[i] = byte(seed >> 56)
	}
	return b
}

// framed builds a frame by the library, with a count, its copy and a sum that
// need not fit: turn is laid over the copy, and off over the sum.
func framed(count uint32, turn, off uint32, rec []byte) []byte {
	b := binary.LittleEndian.AppendUint32(nil, count)
	b = binary.LittleEndian.AppendUint32(b, ^count^turn)
	table := crc32.MakeTable(crc32.Castagnoli)
	sum := crc32.Update(crc32.Checksum(b, table), table, rec)
	b = binary.LittleEndian.AppendUint32(b, sum^off)
	return append(b, rec...)
}

// good is the frame that the document asks for.
func good(rec string) []byte { return framed(uint32(len(rec)), 0, 0, []byte(rec)) }

// row is some frames, one behind the other.
func row(recs ...string) []byte {
	var b []byte
	for _, rec := range recs {
		b = append(b, good(rec)...)
	}
	return b
}

// records are of each length up to 40, around each power of two, and the most.
func records() []string {
	l := []string{strings.Repeat("\x00", 300), strings.Repeat("\xff", 300), string(good("a frame"))}
	for size := range 41 {
		l = append(l, string(mixed(size, uint64(size))))
	}
	for _, size := range []int{63, 64, 127, 128, 129, 255, 256, 257, 511, 512, 4095, 4096, 4097, 7999, api.MaxRecord} {
		l = append(l, string(mixed(size, uint64(size))))
	}
	return l
}

// expect fails the test unless Scan tells these records, bytes and end.
func expect(t *testing.T, name string, b []byte, recs []string, used int, whole bool) {
	t.Helper()
	got, n, all := Scan(b)
	if n != used || all != whole || len(got) != len(recs) {
		t.Errorf("%s: %d records, %d bytes, %v; want %d, %d, %v", name, len(got), n, all, len(recs), used, whole)
		return
	}
	for i, rec := range got {
		if string(rec) != recs[i] {
			t.Errorf("%s: record %d is %.40q, want %.40q", name, i, rec, recs[i])
		}
	}
}

// P3.1: a frame's bytes, one by one.
func TestPutForms(t *testing.T) {
	for _, c := range []struct {
		rec  string
		want []byte
	}{
		{"", []byte{0, 0, 0, 0, 255, 255, 255, 255, 0xB2, 0x06, 0xB0, 0x3B}},
		{"a", []byte{1, 0, 0, 0, 254, 255, 255, 255, 0xEC, 0x48, 0xEA, 0x5E, 'a'}},
		{"rec", []byte{3, 0, 0, 0, 252, 255, 255, 255, 0xF1, 0xD0, 0xA5, 0x5C, 'r', 'e', 'c'}},
	} {
		b, err := Put(nil, []byte(c.rec))
		if err != api.OK || !bytes.Equal(b, c.want) {
			t.Errorf("Put(nil, %q) = % x, %d, want % x", c.rec, b, err, c.want)
		}
	}
	long := mixed(300, 1)
	b, err := Put(nil, long)
	if err != api.OK || len(b) != 312 || !bytes.Equal(b[:8], []byte{44, 1, 0, 0, 211, 254, 255, 255}) || !bytes.Equal(b[12:], long) {
		t.Errorf("Put(nil, 300 bytes) = % x.., %d", b[:min(len(b), 12)], err)
	}
}

// P3.1: records of many lengths, against frames built by the library; Scan
// tells them again.
func TestPutAndScan(t *testing.T) {
	for _, rec := range records() {
		b, err := Put(nil, []byte(rec))
		if err != api.OK || !bytes.Equal(b, good(rec)) {
			t.Errorf("Put of %d bytes: %d bytes, %d", len(rec), len(b), err)
		}
		expect(t, "one frame", b, []string{rec}, 12+len(rec), true)
	}
}

// P3.1: nil and an empty record have the same frame.
func TestPutNothing(t *testing.T) {
	for _, b := range [][]byte{nil, {}} {
		for _, rec := range [][]byte{nil, {}} {
			out, err := Put(b, rec)
			if err != api.OK || !bytes.Equal(out, good("")) {
				t.Errorf("Put of nothing: % x, %d", out, err)
			}
		}
	}
}

// P3.1: the longest record is well; one of a byte more is refused, with
// nothing beside the error, whatever is ahead.
func TestPutAtTheLimit(t *testing.T) {
	for _, ahead := range [][]byte{nil, []byte("x"), good("rec"), mixed(9000, 3)} {
		rec := mixed(api.MaxRecord, 2)
		b, err := Put(ahead, rec)
		if want := append(bytes.Clone(ahead), good(string(rec))...); err != api.OK || !bytes.Equal(b, want) {
			t.Errorf("Put of the most behind %d bytes: %d bytes, %d", len(ahead), len(b), err)
		}
		for _, more := range []int{1, 2, 192, 8000, 57535, 57536, 70000} {
			if b, err := Put(ahead, make([]byte, api.MaxRecord+more)); err != api.ELIMIT || len(b) != 0 {
				t.Errorf("Put of %d too many behind %d bytes: %d bytes, %d", more, len(ahead), len(b), err)
			}
		}
	}
}

// P3.1: Put behind bytes that are there, frames or not: the sum and the count
// are of the record alone.
func TestPutBehind(t *testing.T) {
	for _, ahead := range []string{"x", "\x00\x00\x00\x00", string(good("rec")), string(good("rec")[:7]), string(mixed(500, 4))} {
		for _, rec := range []string{"", "a", "rec", string(mixed(300, 5))} {
			b, err := Put([]byte(ahead), []byte(rec))
			if err != api.OK || string(b) != ahead+string(good(rec)) {
				t.Errorf("Put of %.20q behind %.20q: % x, %d", rec, ahead, b, err)
			}
		}
	}
}

// P3.1: frames one behind the other, told in their order, empty ones too.
func TestScanRows(t *testing.T) {
	for _, recs := range [][]string{
		{"ab", "c"}, {"", ""}, {"a", "a"}, {"", "a", ""}, {"ab", "", "c"}, records(),
	} {
		var b []byte
		for _, rec := range recs {
			out, err := Put(b, []byte(rec))
			if err != api.OK {
				t.Fatalf("Put: %d", err)
			}
			b = out
		}
		if !bytes.Equal(b, row(recs...)) {
			t.Errorf("Put of %d records in a row: other bytes", len(recs))
		}
		expect(t, "a row", b, recs, len(b), true)
	}
}

// P3.1: nothing is whole; bytes that are no frame are not.
func TestScanOfNothing(t *testing.T) {
	expect(t, "nil", nil, nil, 0, true)
	expect(t, "empty", []byte{}, nil, 0, true)
	for size := 1; size < 40; size++ {
		expect(t, "noughts", make([]byte, size), nil, 0, false)
		expect(t, "ones", bytes.Repeat([]byte{255}, size), nil, 0, false)
		expect(t, "mixed", mixed(size, 6), nil, 0, false)
		expect(t, "a frame behind something", append(make([]byte, size), good("rec")...), nil, 0, false)
	}
}

// ends tells how many frames of a row fit into so many bytes, and how many
// bytes these have.
func ends(size int, recs []string) (count, used int) {
	for _, rec := range recs {
		if used+12+len(rec) > size {
			break
		}
		count++
		used += 12 + len(rec)
	}
	return count, used
}

// rows are short enough to be tried at each of their bytes.
func rows() [][]string {
	return [][]string{
		{""}, {"a"}, {"ab", "", "c"}, {"", ""}, {"record", "record"},
		{string(mixed(300, 7)), "x"}, {"x", string(mixed(260, 8)), ""}, {string(good("inner")), "outer"},
	}
}

// P3.1: a row that is cut off at each byte: the frames ahead of the cut, and
// whole only where the cut stands between two.
func TestScanCutOff(t *testing.T) {
	for _, recs := range rows() {
		b := row(recs...)
		for size := range len(b) + 1 {
			count, used := ends(size, recs)
			expect(t, "cut off", b[:size], recs[:count], used, used == size)
		}
	}
}

// P3.1: what is cut off is not read from behind the list's end.
func TestScanReadsNoSpareRoom(t *testing.T) {
	b := row("ab", "cd")
	expect(t, "a record's end in spare room", b[:13:len(b)], nil, 0, false)
	expect(t, "a frame in spare room", b[:14:len(b)], []string{"ab"}, 14, true)
}

// P3.1: one byte changed, by any one bit or all of them: the frames ahead of
// its own are told, and neither that one nor those behind it.
func TestScanChangedByte(t *testing.T) {
	for _, recs := range rows() {
		b := row(recs...)
		for i := range b {
			count, used := ends(i, recs)
			for _, bit := range []byte{1, 2, 4, 8, 16, 32, 64, 128, 255} {
				x := bytes.Clone(b)
				x[i] ^= bit
				expect(t, "changed", x, recs[:count], used, false)
			}
		}
	}
}

// P3.1: numbers that do not fit, beside a sum that does: the copy alone shows
// the fault.
func TestScanTurnedCopy(t *testing.T) {
	for _, rec := range []string{"", "a", "rec", string(mixed(300, 9))} {
		count := uint32(len(rec))
		for bit := range 32 {
			x := framed(count, 1<<bit, 0, []byte(rec))
			expect(t, "copy", x, nil, 0, false)
			expect(t, "copy", append(good("ab"), x...), []string{"ab"}, 14, false)
		}
		expect(t, "a copy not turned", framed(count, 1<<32-1, 0, []byte(rec)), nil, 0, false)
		expect(t, "a copy of noughts", framed(count, ^count, 0, []byte(rec)), nil, 0, false)
	}
}

// P3.1: numbers that fit, beside another sum.
func TestScanOtherSum(t *testing.T) {
	for _, rec := range []string{"", "a", "rec"} {
		for bit := range 32 {
			x := framed(uint32(len(rec)), 0, 1<<bit, []byte(rec))
			expect(t, "sum", x, nil, 0, false)
			expect(t, "sum", append(good("ab"), x...), []string{"ab"}, 14, false)
		}
	}
	alone := framed(3, 0, 0, nil)
	expect(t, "a sum without the record", append(alone, "rec"...), nil, 0, false)
}

// P3.1: a count above the limit is none, though its copy and its sum fit and
// all its bytes are there.
func TestScanCountAboveTheLimit(t *testing.T) {
	most := mixed(api.MaxRecord, 10)
	expect(t, "the most", framed(api.MaxRecord, 0, 0, most), []string{string(most)}, 12+api.MaxRecord, true)
	for _, size := range []int{api.MaxRecord + 1, api.MaxRecord + 2, 8192, 65536, 65536 + 5, 70000} {
		x := framed(uint32(size), 0, 0, mixed(size, 11))
		expect(t, "too long", x, nil, 0, false)
		expect(t, "too long, behind one", append(good("ab"), x...), []string{"ab"}, 14, false)
		expect(t, "too long, ahead of one", append(x, good("ab")...), nil, 0, false)
	}
	for _, count := range []uint32{1 << 16, 1 << 31, 1<<31 - 1, 1<<32 - 1, 1<<32 - 12, 1<<32 - 13} {
		expect(t, "a count without its bytes", framed(count, 0, 0, nil), nil, 0, false)
		expect(t, "a count with some bytes", framed(count, 0, 0, mixed(100, 12)), nil, 0, false)
	}
}

// P3.1: what stands behind the last whole frame is left, however it looks;
// whole frames behind a torn one are not told.
func TestScanBytesBehind(t *testing.T) {
	b := row("ab", "c")
	for _, tail := range []string{
		"\x00", "\xff", "x", string(make([]byte, 12)), string(make([]byte, 5000)),
		string(good("torn")[:15]), "\x00" + string(good("whole")), string(good("torn")[1:]) + string(good("whole")),
	} {
		x := append(bytes.Clone(b), tail...)
		expect(t, "a tail", x, []string{"ab", "c"}, len(b), false)
	}
}

// P3.1: Scan ends and tells what it says, at any bytes: the records, put
// again, are the bytes that they have.
func TestScanAnyBytes(t *testing.T) {
	for seed := range 3000 {
		b := row("ab", "", "some more")
		noise := mixed(3, uint64(seed))
		b[int(noise[0])%len(b)] = noise[1]
		b = b[:len(b)-int(noise[2])%4]
		recs, used, whole := Scan(b)
		var again []byte
		for _, rec := range recs {
			again, _ = Put(again, rec)
		}
		if !bytes.Equal(again, b[:used]) || whole != (used == len(b)) {
			t.Errorf("Scan(% x): %q, %d, %v", b, recs, used, whole)
		}
	}
}

// soil writes over a list and its spare room.
func soil(b []byte) {
	b = b[:cap(b)]
	for i := range b {
		b[i] = 99
	}
}

// R4: Put leaves both lists alone, spare room included, and answers memory of
// its own.
func TestPutLeavesItsLists(t *testing.T) {
	for size := range 5 {
		room, other := bytes.Repeat([]byte{77}, 64), bytes.Repeat([]byte{55}, 64)
		out, err := Put(room[:size], other[:size])
		if err != api.OK {
			t.Fatalf("Put: %d", err)
		}
		soil(out)
		if !bytes.Equal(room, bytes.Repeat([]byte{77}, 64)) || !bytes.Equal(other, bytes.Repeat([]byte{55}, 64)) {
			t.Errorf("Put of %d bytes changed its lists: %v, %v", size, room, other)
		}
	}
	room, long := bytes.Repeat([]byte{77}, 9000), bytes.Repeat([]byte{55}, 9000)
	Put(room[:3], long[:8001])
	if !bytes.Equal(room, bytes.Repeat([]byte{77}, 9000)) || !bytes.Equal(long, bytes.Repeat([]byte{55}, 9000)) {
		t.Errorf("Put that was refused changed its lists")
	}
}

// R4: lists that are changed after the call do not change the answer, nor do
// two answers share memory.
func TestPutKeepsNothing(t *testing.T) {
	b, rec := append(make([]byte, 0, 64), "b"...), []byte("rec")
	first, _ := Put(b, rec)
	second, _ := Put(b, []byte("other"))
	b[0], rec[0] = '!', '!'
	if string(first) != "b"+string(good("rec")) || string(second) != "b"+string(good("other")) {
		t.Errorf("answers changed: %q, %q", first, second)
	}
}

// R4: a list may be its own record.
func TestPutOfItself(t *testing.T) {
	b := append(make([]byte, 0, 64), "itself"...)
	out, err := Put(b, b)
	if err != api.OK || string(out) != "itself"+string(good("itself")) || string(b) != "itself" {
		t.Errorf("Put of a list behind itself: %q, %d", out, err)
	}
}

// R4: Scan leaves its list alone, spare room included; its records are memory
// of their own, each apart from the others.
func TestScanLeavesItsList(t *testing.T) {
	recs := []string{"ab", "", "cde", "", "f", string(mixed(100, 13))}
	room := append(row(recs...), "and the room behind"...)
	before := bytes.Clone(room)
	for own := range recs {
		got, _, _ := Scan(room[:len(row(recs...))])
		if len(got) != len(recs) {
			t.Fatalf("Scan: %d records", len(got))
		}
		soil(got[own])
		for i, rec := range got {
			if i != own && string(rec) != recs[i] {
				t.Errorf("records %d and %d share memory", own, i)
			}
		}
		if !bytes.Equal(room, before) {
			t.Errorf("Scan shares record %d with its list", own)
		}
	}
}

// R4, R5: a list that is changed after the call does not change the answer,
// and what Scan tells hangs on the list that it is given, each time anew.
func TestScanKeepsNothing(t *testing.T) {
	b := row("ab", "cd")
	first, _, _ := Scan(b)
	again, _, _ := Scan(b)
	first[1] = nil
	b[12], b[26] = '!', '!'
	if string(first[0]) != "ab" || string(again[0]) != "ab" || string(again[1]) != "cd" {
		t.Errorf("answers changed: %q, %q", first, again)
	}
	expect(t, "the changed list", b, nil, 0, false)
	b[12], b[26] = 'a', 'c'
	expect(t, "the list as it was", b, []string{"ab", "cd"}, 28, true)
}
