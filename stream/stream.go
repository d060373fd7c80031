// Package stream is layer 1: see shared/doc/01-stream.md.
package stream

import "tidepole/api"

// Writer has bits. Those of its last byte that it doesn't have are noughts, so that its bytes can be told as they are.
type Writer struct {
	b    []byte
	bits int
}

// NewWriter: with the first bits of bytes.
func NewWriter(b []byte, bits int) (*Writer, api.Errno) {
	if !has(b, bits) {
		return nil, api.ErrRange
	}
	return &Writer{b: first(b, bits), bits: bits}, api.OK
}

// Put: some bits of a number.
func (w *Writer) Put(v uint64, n int) {
	if !right(n) {
		return
	}
	for i := range n {
		w.Bit(v>>(n-1-i)&1 == 1)
	}
}

// Bit: one more.
func (w *Writer) Bit(on bool) {
	if w.bits%8 == 0 {
		w.b = append(w.b, 0)
	}
	if on {
		w.b[w.bits/8] |= mask(w.bits)
	}
	w.bits++
}

// Len: how many.
func (w *Writer) Len() int { return w.bits }

// Bytes: theirs.
func (w *Writer) Bytes() []byte { return first(w.b, w.bits) }

// Copy: another one.
func (w *Writer) Copy() *Writer { return &Writer{b: first(w.b, w.bits), bits: w.bits} }

// Reader goes over bits. One that fell short ends where it stands, so that nothing is left and what was read stays told.
type Reader struct {
	b     []byte
	bits  int
	pos   int
	short bool
}

// NewReader: over the first bits of bytes.
func NewReader(b []byte, bits int) (*Reader, api.Errno) {
	if !has(b, bits) {
		return nil, api.ErrRange
	}
	return &Reader{b: first(b, bits), bits: bits}, api.OK
}

// Get: the next ones.
func (r *Reader) Get(n int) uint64 {
	if !right(n) {
		return 0
	}
	if n > r.Left() {
		r.bits, r.short = r.pos, true
		return 0
	}
	v := uint64(0)
	for i := range n {
		v <<= 1
		if r.b[(r.pos+i)/8]&mask(r.pos+i) != 0 {
			v |= 1
		}
	}
	r.pos += n
	return v
}

// Bit: the next one.
func (r *Reader) Bit() bool { return r.Get(1) == 1 }

// Left: how many are left.
func (r *Reader) Left() int { return r.bits - r.pos }

// Pos: how many were read.
func (r *Reader) Pos() int { return r.pos }

// Short: was more asked?
func (r *Reader) Short() bool { return r.short }

// right: may so many bits be put or read at once?
func right(n int) bool { return n >= 1 && n <= 64 }

// mask: where in its byte a bit stands.
func mask(i int) byte { return 0x80 >> (i % 8) }

// bytesFor: how many bytes so many bits take. The number isn't rounded up by adding to it: it may be the greatest int.
func bytesFor(bits int) int {
	n := bits / 8
	if bits%8 > 0 {
		n++
	}
	return n
}

// has: are there so many bits?
func has(b []byte, bits int) bool { return bits >= 0 && bytesFor(bits) <= len(b) }

// first: the first bits, in bytes of their own, with noughts behind them.
func first(b []byte, bits int) []byte {
	own := make([]byte, bytesFor(bits))
	copy(own, b)
	if bits%8 > 0 {
		own[len(own)-1] &^= 0xff >> (bits % 8)
	}
	return own
}
