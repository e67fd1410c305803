// Package wire: the pieces that records, stores and messages are written of,
// for the layers that have them alike: see DOC.md, chapters 14, 15 and 19.
package wire

import (
	"hourglass/api"
	"hourglass/bits"
	"hourglass/stamp"
)

// Writer gathers pieces. Its bytes are its own, so that each piece goes behind
// the others without a copy of them.
type Writer struct{ b []byte }

// Bytes hands out what was gathered. It is the caller's then.
func (w *Writer) Bytes() []byte {
	b := w.b
	w.b = nil
	return b
}

// Number writes a number.
func (w *Writer) Number(v uint64) { w.b = append(w.b, bits.Put(nil, v)...) }

// Flag writes 0 or 1.
func (w *Writer) Flag(yes bool) {
	if yes {
		w.Number(1)
		return
	}
	w.Number(0)
}

// Stamp writes a stamp that may be. One that may not be has no number, and
// none is written.
func (w *Writer) Stamp(s api.Stamp) {
	if v, err := stamp.Pack(s); err == api.OK {
		w.Number(v)
	}
}

// Key writes a key's bytes.
func (w *Writer) Key(k api.Key) { w.b = append(w.b, k[:]...) }

// Text writes how many bytes a text has, and these.
func (w *Writer) Text(s string) {
	w.Number(uint64(len(s)))
	w.b = append(w.b, s...)
}

// Piece writes what another package wrote.
func (w *Writer) Piece(b []byte) { w.b = append(w.b, b...) }

// Reader takes pieces off the front of bytes. Behind a piece that is not there
// all others are zero, so that it is enough to ask Bad at the end.
type Reader struct {
	rest []byte // not yet taken
	bad  bool
}

// Over makes one that reads b.
func Over(b []byte) *Reader { return &Reader{rest: b} }

// Bad tells whether a piece was not there.
func (r *Reader) Bad() bool { return r.bad }

// Left counts the bytes that were not taken: none of a bad one.
func (r *Reader) Left() int { return len(r.rest) }

// Number takes a number.
func (r *Reader) Number() uint64 {
	v, n, err := bits.Get(r.rest)
	if err != api.OK {
		r.fail()
		return 0
	}
	r.rest = r.rest[n:]
	return v
}

// UpTo takes a number that is at most the one handed in (which is not below
// 0): so it is one that an int holds.
func (r *Reader) UpTo(most int) int {
	v := r.Number()
	if v > uint64(most) {
		r.fail()
		return 0
	}
	return int(v)
}

// Flag takes 0 or 1.
func (r *Reader) Flag() bool { return r.UpTo(1) == 1 }

// Stamp takes a stamp that may be.
func (r *Reader) Stamp() api.Stamp {
	s, err := stamp.Unpack(r.Number())
	if err != api.OK {
		r.fail()
	}
	return s
}

// Key takes a key's bytes, also of one that may not be.
func (r *Reader) Key() api.Key {
	var k api.Key
	copy(k[:], r.take(len(k)))
	return k
}

// Text takes a text of at most so many bytes.
func (r *Reader) Text(most int) string { return string(r.take(r.UpTo(most))) }

// Piece takes what another package reads: that is handed the bytes that were
// not yet taken, and tells of how many the piece is. Behind a piece that is not
// there nothing is read.
func (r *Reader) Piece(read func(b []byte) (n int, err api.Errno)) {
	if r.bad {
		return
	}
	n, err := read(r.rest)
	if err != api.OK {
		r.fail()
		return
	}
	r.take(n)
}

// take takes so many bytes, as a piece of those that are read.
func (r *Reader) take(n int) []byte {
	if len(r.rest) < n {
		r.fail()
		return nil
	}
	b := r.rest[:n]
	r.rest = r.rest[n:]
	return b
}

// fail leaves nothing that a later piece could be taken from.
func (r *Reader) fail() { r.rest, r.bad = nil, true }
