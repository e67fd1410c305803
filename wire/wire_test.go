package wire

import (
	"bytes"
	"math"
	"math/rand"
	"slices"
	"strings"
	"testing"

	"hourglass/api"
)

const top = 36028797018963967 // MaxTime, in digits

// k is the bytes of a text, and noughts behind it, also where that may not be
// a key.
func k(s string) api.Key {
	var x api.Key
	copy(x[:], s)
	return x
}

// wrote is what a new writer gathers.
func wrote(f func(w *Writer)) string {
	var w Writer
	f(&w)
	return string(w.Bytes())
}

// P14.1: each piece, byte by byte.
func TestWriter(t *testing.T) {
	for _, c := range []struct {
		f    func(w *Writer)
		want string
	}{
		{func(w *Writer) {}, ""},
		{func(w *Writer) { w.Number(0) }, "\x00"}, {func(w *Writer) { w.Number(127) }, "\x7f"}, {func(w *Writer) { w.Number(128) }, "\x80\x01"}, {func(w *Writer) { w.Number(300) }, "\xac\x02"},
		{func(w *Writer) { w.Number(math.MaxUint64) }, "\xff\xff\xff\xff\xff\xff\xff\xff\xff\x01"},
		{func(w *Writer) { w.Flag(false) }, "\x00"}, {func(w *Writer) { w.Flag(true) }, "\x01"},
		{func(w *Writer) { w.Stamp(api.Stamp{}) }, "\x00"}, {func(w *Writer) { w.Stamp(api.Stamp{Node: 255}) }, "\xff\x01"}, {func(w *Writer) { w.Stamp(api.Stamp{Time: 1, Node: 2}) }, "\x82\x02"},
		{func(w *Writer) { w.Stamp(api.Stamp{Time: top, Node: 255}) }, "\xff\xff\xff\xff\xff\xff\xff\xff\x7f"},
		{func(w *Writer) { w.Stamp(api.Stamp{Time: -1}) }, ""}, {func(w *Writer) { w.Stamp(api.Stamp{Time: top + 1}) }, ""},
		{func(w *Writer) { w.Key(k("ab")) }, "ab" + strings.Repeat("\x00", 14)}, {func(w *Writer) { w.Key(k("sixteen bytes...")) }, "sixteen bytes..."}, {func(w *Writer) { w.Key(api.Key{}) }, strings.Repeat("\x00", 16)},
		{func(w *Writer) { w.Text("") }, "\x00"}, {func(w *Writer) { w.Text("\x00") }, "\x01\x00"}, {func(w *Writer) { w.Text("xyz") }, "\x03xyz"}, {func(w *Writer) { w.Text("ä") }, "\x02ä"},
		{func(w *Writer) { w.Text(strings.Repeat("x", 300)) }, "\xac\x02" + strings.Repeat("x", 300)},
		{func(w *Writer) {
			w.Number(1)
			w.Text("x")
			w.Flag(true)
			w.Key(k("sixteen bytes..."))
			w.Stamp(api.Stamp{Time: 1})
		}, "\x01\x01x\x01sixteen bytes...\x80\x02"},
		{func(w *Writer) { w.Piece(nil) }, ""}, {func(w *Writer) { w.Piece([]byte{}) }, ""}, {func(w *Writer) { w.Piece([]byte("\x00xyz")) }, "\x00xyz"},
		{func(w *Writer) {
			w.Flag(true)
			w.Piece([]byte("some"))
			w.Piece([]byte("more"))
			w.Number(9)
		}, "\x01somemore\x09"},
	} {
		if got := wrote(c.f); got != c.want {
			t.Errorf("P14.1: wrote %x; want %x", got, c.want)
		}
	}
}

// R4: what was handed out is not touched by what is written later.
func TestWriterHandsOut(t *testing.T) {
	var w Writer
	w.Number(300)
	first := w.Bytes()
	w.Text("xyz")
	second := w.Bytes()
	w.Text("over, and written over")
	if string(first) != "\xac\x02" || string(second) != "\x03xyz" {
		t.Errorf("R4: %x, %x", first, second)
	}
}

// R4: a piece that is handed in is as it was, spare room included, and is not
// kept.
func TestWriterOfPieces(t *testing.T) {
	room := []byte("piece, and spare room")
	was := bytes.Clone(room)
	var w Writer
	w.Piece(room[:5])
	w.Text("behind it")
	if !bytes.Equal(room, was) {
		t.Fatalf("R4: the piece was changed: %q", room)
	}
	clear(room)
	if got := string(w.Bytes()); got != "piece\x09behind it" {
		t.Errorf("R4: the piece is kept: %q", got)
	}
}

// pieces are the ways to take one.
func pieces() []func(r *Reader) any {
	return []func(r *Reader) any{
		func(r *Reader) any { return r.Number() }, func(r *Reader) any { return r.UpTo(5) }, func(r *Reader) any { return r.Flag() },
		func(r *Reader) any { return r.Stamp() }, func(r *Reader) any { return r.Key() }, func(r *Reader) any { return r.Text(5) },
	}
}

const (
	number = iota
	upTo5
	flag
	stampPiece
	keyPiece
	text5
)

// P14.1: each piece, with nothing behind it and with some bytes.
func TestReader(t *testing.T) {
	for _, c := range []struct {
		piece int
		b     string
		want  any
	}{
		{number, "\x00", uint64(0)}, {number, "\xac\x02", uint64(300)}, {number, "\xff\xff\xff\xff\xff\xff\xff\xff\xff\x01", uint64(math.MaxUint64)},
		{upTo5, "\x00", 0}, {upTo5, "\x04", 4}, {upTo5, "\x05", 5}, {flag, "\x00", false}, {flag, "\x01", true},
		{stampPiece, "\x00", api.Stamp{}}, {stampPiece, "\x82\x02", api.Stamp{Time: 1, Node: 2}}, {stampPiece, "\xff\xff\xff\xff\xff\xff\xff\xff\x7f", api.Stamp{Time: top, Node: 255}},
		{keyPiece, "sixteen bytes...", k("sixteen bytes...")}, {keyPiece, strings.Repeat("\x00", 15) + "b", k(strings.Repeat("\x00", 15) + "b")}, {keyPiece, strings.Repeat("\x00", 16), api.Key{}},
		{text5, "\x00", ""}, {text5, "\x01\x00", "\x00"}, {text5, "\x05vwxyz", "vwxyz"},
	} {
		for _, behind := range []string{"", "\x00", "\x80", "and more"} {
			r := Over([]byte(c.b + behind))
			if got := pieces()[c.piece](r); got != c.want || r.Bad() || r.Left() != len(behind) {
				t.Errorf("P14.1: piece %d of %x: %v, %v, %d; want %v, %d", c.piece, c.b+behind, got, r.Bad(), r.Left(), c.want, len(behind))
			}
		}
		for n := range c.b {
			isBad(t, c.piece, c.b[:n])
		}
	}
}

// isBad fails, unless a piece is not there, it is zero, and so are all behind
// it.
func isBad(t *testing.T, piece int, b string) {
	t.Helper()
	zero := []any{uint64(0), 0, false, api.Stamp{}, api.Key{}, ""}
	r := Over([]byte(b))
	if got := pieces()[piece](r); got != zero[piece] || !r.Bad() || r.Left() != 0 {
		t.Errorf("P14.1: piece %d of %x: %v, %v, %d; it is not there", piece, b, got, r.Bad(), r.Left())
	}
	for i, f := range pieces() {
		if got := f(r); got != zero[i] || !r.Bad() || r.Left() != 0 {
			t.Errorf("P14.1: piece %d behind a bad one: %v, %v, %d", i, got, r.Bad(), r.Left())
		}
	}
}

// P14.1: pieces that are not there, with bytes behind that could be others.
func TestReaderBad(t *testing.T) {
	for piece, wrong := range [][]string{
		number:     {"", "\x80", "\x80\x00", "\x81\x00", "\x80\x80\x00", "\xff\xff\xff\xff\xff\xff\xff\xff\xff\x02", "\x80\x80\x80\x80\x80\x80\x80\x80\x80\x80\x01"},
		upTo5:      {"", "\x06", "\x7f", "\x80\x01", "\x85\x00", "\xff\xff\xff\xff\x0f", "\x80\x80\x80\x80\x10", "\x81\x80\x80\x80\x10", "\xff\xff\xff\xff\xff\xff\xff\xff\x7f", "\x80\x80\x80\x80\x80\x80\x80\x80\x80\x01", "\xff\xff\xff\xff\xff\xff\xff\xff\xff\x01"},
		flag:       {"", "\x02", "\x7f", "\x80\x01", "\x81\x00", "\x81\x80\x80\x80\x10", "\xff\xff\xff\xff\xff\xff\xff\xff\xff\x01"},
		stampPiece: {"", "\x80", "\x82\x00", "\x80\x80\x80\x80\x80\x80\x80\x80\x80\x01", "\xff\xff\xff\xff\xff\xff\xff\xff\xff\x01"},
		keyPiece:   {"", "a", "fifteen bytes.."},
		text5:      {"", "\x01", "\x05vwxy", "\x06uvwxyz", "\x80\x00", "\xff\xff\xff\xff\xff\xff\xff\xff\xff\x01uvwxyz", "\x80\x80\x80\x80\x80\x80\x80\x80\x80\x01uvwxyz"},
	} {
		for _, b := range wrong {
			isBad(t, piece, b)
		}
	}
	for _, piece := range []int{number, upTo5, flag, stampPiece} {
		isBad(t, piece, "\x81\x00\x01\x01\x01")
	}
	isBad(t, upTo5, "\x06\x01\x01\x01")
	isBad(t, flag, "\x02\x01\x01\x01")
	isBad(t, text5, "\x06uvwxyz\x01\x01")
}

// R4: the bytes that are read are as they were, and a text is not a piece of
// them.
func TestReaderOfBytes(t *testing.T) {
	room := []byte("\x03xyzsixteen bytes...spare")
	was := bytes.Clone(room)
	r := Over(room[:20])
	s, x := r.Text(5), r.Key()
	if !bytes.Equal(room, was) || r.Bad() || r.Left() != 0 {
		t.Fatalf("R4: the bytes were changed: %x", room)
	}
	for i := range room {
		room[i] = 'o'
	}
	if s != "xyz" || x != k("sixteen bytes...") {
		t.Errorf("R4: what was read is kept: %q, %q", s, x)
	}
}

// P19.1: a piece that another package reads: it is handed what is left, and as
// many bytes are taken as it tells.
func TestReaderPiece(t *testing.T) {
	for n := range 5 {
		in := Over([]byte("\x07four"))
		in.Number()
		handed := ""
		in.Piece(func(b []byte) (int, api.Errno) {
			handed = string(b)
			return n, api.OK
		})
		if handed != "four" || in.Bad() || in.Left() != 4-n {
			t.Errorf("P19.1: a piece of %d bytes: it was handed %q; %v, %d", n, handed, in.Bad(), in.Left())
		}
		for _, c := range "four"[n:] {
			if got := in.Number(); got != uint64(c) {
				t.Errorf("P19.1: behind a piece of %d bytes: %d; want %d", n, got, c)
			}
		}
		if in.Bad() || in.Left() != 0 {
			t.Errorf("P19.1: behind a piece of %d bytes: %v, %d", n, in.Bad(), in.Left())
		}
	}
}

// P19.1: a piece that is refused, or is not there: all others are zero then,
// and nothing is read any more.
func TestReaderPieceBad(t *testing.T) {
	for what, read := range map[string]func(b []byte) (int, api.Errno){
		"refused":               func(b []byte) (int, api.Errno) { return 0, api.EFORM },
		"refused, with a count": func(b []byte) (int, api.Errno) { return 2, api.EARG },
		"past the end":          func(b []byte) (int, api.Errno) { return len(b) + 1, api.OK },
	} {
		in := Over([]byte("\x01\x01\x01\x01"))
		in.Piece(read)
		if !in.Bad() || in.Left() != 0 || in.Number() != 0 {
			t.Errorf("P19.1: a piece %s: %v, %d", what, in.Bad(), in.Left())
		}
		in.Piece(func(b []byte) (int, api.Errno) {
			t.Errorf("P19.1: read behind a piece %s", what)
			return 0, api.OK
		})
		if !in.Bad() || in.Left() != 0 {
			t.Errorf("P19.1: two pieces behind one %s: %v, %d", what, in.Bad(), in.Left())
		}
	}
}

// P14.1: pieces in any order are read as they were written.
func TestAny(t *testing.T) {
	r := rand.New(rand.NewSource(14))
	for range 3000 {
		var w Writer
		var kinds []int
		var want []any
		for range r.Intn(20) {
			kind := r.Intn(6)
			kinds, want = append(kinds, kind), append(want, write(r, &w, kind))
		}
		in := Over(w.Bytes())
		var got []any
		for _, kind := range kinds {
			got = append(got, pieces()[kind](in))
		}
		if !slices.Equal(got, want) || in.Bad() || in.Left() != 0 {
			t.Fatalf("P14.1: read %v; want %v", got, want)
		}
	}
}

// write writes any piece of a kind, and tells what it is.
func write(r *rand.Rand, w *Writer, kind int) any {
	switch kind {
	case number:
		v := r.Uint64() >> r.Intn(64)
		w.Number(v)
		return v
	case upTo5:
		v := r.Intn(6)
		w.Number(uint64(v))
		return v
	case flag:
		yes := r.Intn(2) == 1
		w.Flag(yes)
		return yes
	case stampPiece:
		s := api.Stamp{Time: r.Int63() >> (8 + r.Intn(55)), Node: uint8(r.Intn(256))}
		w.Stamp(s)
		return s
	case keyPiece:
		var x api.Key
		r.Read(x[:])
		w.Key(x)
		return x
	}
	s := strings.Repeat("\xff", r.Intn(6))
	w.Text(s)
	return s
}
