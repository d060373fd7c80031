package stream_test

import (
	"bytes"
	"math"
	"math/rand"
	"testing"

	"tidepole/api"
	"tidepole/stream"
)

func writer(t *testing.T, b []byte, bits int) *stream.Writer {
	t.Helper()
	w, e := stream.NewWriter(b, bits)
	if e != api.OK || w == nil {
		t.Fatalf("NewWriter(%x, %d): %v, %d", b, bits, w, e)
	}
	return w
}

func reader(t *testing.T, b []byte, bits int) *stream.Reader {
	t.Helper()
	r, e := stream.NewReader(b, bits)
	if e != api.OK || r == nil {
		t.Fatalf("NewReader(%x, %d): %v, %d", b, bits, r, e)
	}
	return r
}

func wantWriter(t *testing.T, w *stream.Writer, bits int, b ...byte) {
	t.Helper()
	if w.Len() != bits || !bytes.Equal(w.Bytes(), b) {
		t.Errorf("writer: %d bits, %x; want %d, %x", w.Len(), w.Bytes(), bits, b)
	}
}

func wantReader(t *testing.T, r *stream.Reader, pos, left int, short bool) {
	t.Helper()
	if r.Pos() != pos || r.Left() != left || r.Short() != short {
		t.Errorf("reader: pos %d, left %d, short %v; want %d, %d, %v", r.Pos(), r.Left(), r.Short(), pos, left, short)
	}
}

func wantGet(t *testing.T, r *stream.Reader, n int, v uint64) {
	t.Helper()
	if got := r.Get(n); got != v {
		t.Errorf("Get(%d): %x; want %x", n, got, v)
	}
}

// wrongBits: numbers of bits that bytes of a length haven't.
func wrongBits(bytes int) []int {
	return []int{-1, -8, math.MinInt, 8*bytes + 1, 8*bytes + 8, math.MaxInt - 7, math.MaxInt}
}

// P1.1

func TestWriterOfTheChapter(t *testing.T) {
	w := writer(t, nil, 0)
	wantWriter(t, w, 0)
	w.Put(5, 3)
	w.Bit(true)
	wantWriter(t, w, 4, 0xb0)
}

func TestNewWriterTakesTheFirstBits(t *testing.T) {
	wantWriter(t, writer(t, []byte{}, 0), 0)
	wantWriter(t, writer(t, []byte{0xff, 0xff}, 0), 0)
	wantWriter(t, writer(t, []byte{0xff, 0xff}, 1), 1, 0x80)
	wantWriter(t, writer(t, []byte{0xff, 0xff}, 7), 7, 0xfe)
	wantWriter(t, writer(t, []byte{0xff, 0xff}, 8), 8, 0xff)
	wantWriter(t, writer(t, []byte{0xff, 0xff}, 9), 9, 0xff, 0x80)
	wantWriter(t, writer(t, []byte{0xa5, 0x3c}, 13), 13, 0xa5, 0x38)
	wantWriter(t, writer(t, []byte{0xa5, 0x3c}, 16), 16, 0xa5, 0x3c)
}

func TestNewWriterRefusesWrongBits(t *testing.T) {
	for _, b := range [][]byte{nil, {}, {0xff}, {1, 2, 3}, append(make([]byte, 0, 64), 7)} {
		for _, bits := range wrongBits(len(b)) {
			if w, e := stream.NewWriter(b, bits); w != nil || e != api.ErrRange {
				t.Errorf("NewWriter(%x, %d): %v, %d", b, bits, w, e)
			}
		}
	}
}

func TestPutTakesTheLowestBits(t *testing.T) {
	w := writer(t, nil, 0)
	w.Put(math.MaxUint64-5, 3)
	wantWriter(t, w, 3, 0x40)
	w.Put(0xfffff, 9)
	wantWriter(t, w, 12, 0x5f, 0xf0)
	w.Put(0, 5)
	wantWriter(t, w, 17, 0x5f, 0xf0, 0x00)
}

func TestPutAtItsEdges(t *testing.T) {
	w := writer(t, []byte{0x80}, 1)
	for _, n := range []int{0, -1, -64, 65, 66, 128, math.MinInt, math.MaxInt} {
		w.Put(^uint64(0), n)
		wantWriter(t, w, 1, 0x80)
	}
	w.Put(2, 1)
	wantWriter(t, w, 2, 0x80)
	w.Put(3, 1)
	wantWriter(t, w, 3, 0xa0)
	w.Put(0x8123456789abcdef, 64)
	wantWriter(t, w, 67, 0xb0, 0x24, 0x68, 0xac, 0xf1, 0x35, 0x79, 0xbd, 0xe0)
	w.Put(math.MaxUint64, 63)
	if w.Len() != 130 {
		t.Errorf("Len: %d", w.Len())
	}
}

func TestPutIsBehindWhatTheBytesHad(t *testing.T) {
	// The bits of b behind those that were taken must not be seen through noughts that are put there.
	w := writer(t, []byte{0xff, 0xff, 0xff}, 11)
	w.Put(0, 3)
	w.Bit(false)
	w.Bit(true)
	wantWriter(t, w, 16, 0xff, 0xe1)
	w.Bit(false)
	wantWriter(t, w, 17, 0xff, 0xe1, 0x00)
}

func TestBitByBit(t *testing.T) {
	w := writer(t, nil, 0)
	for i := range 20 {
		w.Bit(i%3 == 0)
		if w.Len() != i+1 {
			t.Fatalf("Len: %d behind %d bits", w.Len(), i+1)
		}
	}
	wantWriter(t, w, 20, 0x92, 0x49, 0x20)
}

func TestCopyOfWriterGoesOnAlone(t *testing.T) {
	w := writer(t, nil, 0)
	for range 11 { // more than one byte, so that the list has grown and may have spare room
		w.Bit(true)
	}
	c := w.Copy()
	wantWriter(t, c, 11, 0xff, 0xe0)
	c.Put(5, 5)
	c.Put(0xcc, 8)
	wantWriter(t, w, 11, 0xff, 0xe0)
	w.Put(2, 5)
	w.Put(0x33, 8)
	wantWriter(t, c, 24, 0xff, 0xe5, 0xcc)
	wantWriter(t, w, 24, 0xff, 0xe2, 0x33)
	e := writer(t, nil, 0).Copy()
	e.Bit(true)
	wantWriter(t, e, 1, 0x80)
}

func TestCopyOfWriterAtAByteEndGoesOnAlone(t *testing.T) {
	w := writer(t, nil, 0)
	w.Put(0xabcdef, 24)
	c := w.Copy()
	c.Put(0x11, 8)
	w.Put(0x22, 8)
	wantWriter(t, c, 32, 0xab, 0xcd, 0xef, 0x11)
	wantWriter(t, w, 32, 0xab, 0xcd, 0xef, 0x22)
}

func TestWriterLeavesWhatIsHandedIn(t *testing.T) {
	whole := []byte{1, 2, 3, 4, 5, 6, 7, 8}
	old := bytes.Clone(whole)
	w := writer(t, whole[:3], 19)
	w.Put(^uint64(0), 64)
	writer(t, whole[:2], 16).Put(^uint64(0), 64)
	writer(t, whole[:0], 0).Put(^uint64(0), 64)
	if !bytes.Equal(whole, old) {
		t.Errorf("handed in: %x; want %x", whole, old)
	}
	w = writer(t, whole[:3], 19)
	for i := range whole {
		whole[i] = 0xff
	}
	wantWriter(t, w, 19, 1, 2, 0)
}

func TestBytesAreNewMemory(t *testing.T) {
	w := writer(t, nil, 0)
	for _, v := range []uint64{0x12, 0x34, 0x56} {
		w.Put(v, 8)
	}
	w.Put(1, 4)
	spoil := func(b []byte) {
		b = b[:cap(b)]
		for i := range b {
			b[i] = 0xff
		}
	}
	kept := w.Bytes()
	spoil(w.Bytes())
	c := w.Copy()
	spoil(c.Bytes())
	w.Put(2, 4)
	w.Put(3, 8)
	c.Put(4, 4)
	wantWriter(t, w, 40, 0x12, 0x34, 0x56, 0x12, 0x03)
	wantWriter(t, c, 32, 0x12, 0x34, 0x56, 0x14)
	if !bytes.Equal(kept, []byte{0x12, 0x34, 0x56, 0x10}) {
		t.Errorf("told bytes: %x", kept)
	}
	spoil(kept)
	wantWriter(t, w, 40, 0x12, 0x34, 0x56, 0x12, 0x03)
}

// P1.2

func TestGetInOrder(t *testing.T) {
	r := reader(t, []byte{0xb0, 0xf1}, 16)
	wantReader(t, r, 0, 16, false)
	wantGet(t, r, 3, 5)
	wantReader(t, r, 3, 13, false)
	if !r.Bit() || r.Bit() {
		t.Errorf("Bit")
	}
	wantReader(t, r, 5, 11, false)
	wantGet(t, r, 7, 0x0f)
	wantGet(t, r, 4, 1)
	wantReader(t, r, 16, 0, false)
}

func TestNewReaderGoesOverTheFirstBits(t *testing.T) {
	for bits := range 17 {
		r := reader(t, []byte{0xff, 0xff, 0xff}, bits)
		wantReader(t, r, 0, bits, false)
		for range bits {
			wantGet(t, r, 1, 1)
		}
		wantReader(t, r, bits, 0, false)
		wantGet(t, r, 1, 0)
		wantReader(t, r, bits, 0, true)
	}
	wantReader(t, reader(t, nil, 0), 0, 0, false)
	wantReader(t, reader(t, []byte{1, 2, 3}, 24), 0, 24, false)
}

func TestNewReaderRefusesWrongBits(t *testing.T) {
	for _, b := range [][]byte{nil, {}, {0xff}, {1, 2, 3}, append(make([]byte, 0, 64), 7)} {
		for _, bits := range wrongBits(len(b)) {
			if r, e := stream.NewReader(b, bits); r != nil || e != api.ErrRange {
				t.Errorf("NewReader(%x, %d): %v, %d", b, bits, r, e)
			}
		}
	}
}

func TestGetAtItsEdges(t *testing.T) {
	b := []byte{0xc0, 0x91, 0xa2, 0xb3, 0xc4, 0xd5, 0xe6, 0xf7, 0x80, 0xff}
	r := reader(t, b, 66)
	for _, n := range []int{0, -1, -64, 65, 66, 67, math.MinInt, math.MaxInt} {
		wantGet(t, r, n, 0)
		wantReader(t, r, 0, 66, false)
	}
	wantGet(t, r, 1, 1)
	wantGet(t, r, 64, 0x8123456789abcdef)
	wantReader(t, r, 65, 1, false)
	wantGet(t, r, 1, 0)
	wantReader(t, r, 66, 0, false)
}

func TestGetOfAllThatIsLeft(t *testing.T) {
	b := []byte{0x81, 0, 0, 0, 0, 0, 0, 0xff}
	r := reader(t, b, 64)
	wantGet(t, r, 64, 0x81000000000000ff)
	wantReader(t, r, 64, 0, false)
	r = reader(t, b, 63)
	wantGet(t, r, 64, 0)
	wantReader(t, r, 0, 0, true)
}

func TestShortTellsNothingMore(t *testing.T) {
	r := reader(t, []byte{0xff, 0xff}, 14)
	wantGet(t, r, 5, 0x1f)
	wantGet(t, r, 10, 0)
	wantReader(t, r, 5, 0, true)
	for _, n := range []int{1, 9, 0, -1, 64, 65, 2} {
		wantGet(t, r, n, 0)
		wantReader(t, r, 5, 0, true)
	}
	if r.Bit() {
		t.Errorf("Bit of a short reader")
	}
	wantReader(t, r, 5, 0, true)
}

func TestBitFallsShort(t *testing.T) {
	r := reader(t, []byte{0xff}, 1)
	if !r.Bit() {
		t.Errorf("Bit")
	}
	wantReader(t, r, 1, 0, false)
	if r.Bit() {
		t.Errorf("Bit behind the last one")
	}
	wantReader(t, r, 1, 0, true)
}

func TestWrongNumberDoesNotFallShort(t *testing.T) {
	r := reader(t, nil, 0)
	for _, n := range []int{0, -1, 65, math.MaxInt, math.MinInt} {
		wantGet(t, r, n, 0)
		wantReader(t, r, 0, 0, false)
	}
	wantGet(t, r, 1, 0)
	wantReader(t, r, 0, 0, true)
}

func TestReaderLeavesAndKeepsNothing(t *testing.T) {
	whole := []byte{0x12, 0x34, 0x56, 0x78}
	old := bytes.Clone(whole)
	r := reader(t, whole[:2], 13)
	wantGet(t, r, 4, 1)
	wantGet(t, r, 64, 0)
	if !bytes.Equal(whole, old) {
		t.Errorf("handed in: %x; want %x", whole, old)
	}
	r = reader(t, whole[:2], 16)
	for i := range whole {
		whole[i] = 0xff
	}
	wantGet(t, r, 16, 0x1234)
}

func TestReadersGoAlone(t *testing.T) {
	b := []byte{0xa5}
	r, s := reader(t, b, 8), reader(t, b, 8)
	wantGet(t, r, 4, 0xa)
	wantGet(t, r, 5, 0)
	wantReader(t, s, 0, 8, false)
	wantGet(t, s, 8, 0xa5)
	wantReader(t, r, 4, 0, true)
}

// Both

// told: a list of bits as bytes, by the chapter's words.
func told(on []bool) []byte {
	b := make([]byte, (len(on)+7)/8)
	for i, x := range on {
		if x {
			b[i/8] += 1 << (7 - i%8)
		}
	}
	return b
}

// number: some bits, the first one highest.
func number(on []bool) uint64 {
	v := uint64(0)
	for _, x := range on {
		v *= 2
		if x {
			v++
		}
	}
	return v
}

func TestAgainstAListOfBits(t *testing.T) {
	rnd := rand.New(rand.NewSource(1))
	for range 300 {
		b := make([]byte, rnd.Intn(5))
		rnd.Read(b)
		bits := rnd.Intn(8*len(b) + 1)
		w := writer(t, b, bits)
		var on []bool
		for i := range bits {
			on = append(on, b[i/8]>>(7-i%8)&1 == 1)
		}
		for range rnd.Intn(20) {
			v, n := rnd.Uint64(), rnd.Intn(70)-2
			w.Put(v, n)
			if n <= 64 {
				for i := n - 1; i >= 0; i-- {
					on = append(on, v>>i&1 == 1)
				}
			}
		}
		wantWriter(t, w, len(on), told(on)...)
		readAgainst(t, rnd, w, on)
	}
}

func readAgainst(t *testing.T, rnd *rand.Rand, w *stream.Writer, on []bool) {
	t.Helper()
	r := reader(t, w.Bytes(), w.Len())
	at := 0
	for !r.Short() {
		n := rnd.Intn(64) + 1
		if at+n > len(on) {
			wantGet(t, r, n, 0)
			wantReader(t, r, at, 0, true)
			return
		}
		wantGet(t, r, n, number(on[at:at+n]))
		at += n
		wantReader(t, r, at, len(on)-at, false)
	}
	t.Errorf("short at %d of %d", at, len(on))
}
