package varint_test

import (
	"bytes"
	"math"
	"math/rand"
	"testing"

	"tidepole/api"
	"tidepole/stream"
	"tidepole/varint"
)

func writer(t *testing.T, b []byte, bits int) *stream.Writer {
	t.Helper()
	w, e := stream.NewWriter(b, bits)
	if e != api.OK {
		t.Fatalf("NewWriter(%x, %d): %d", b, bits, e)
	}
	return w
}

func reader(t *testing.T, b []byte, bits int) *stream.Reader {
	t.Helper()
	r, e := stream.NewReader(b, bits)
	if e != api.OK {
		t.Fatalf("NewReader(%x, %d): %d", b, bits, e)
	}
	return r
}

func wantGetU(t *testing.T, r *stream.Reader, v uint64, e api.Errno) {
	t.Helper()
	if gotV, gotE := varint.GetU(r); gotV != v || gotE != e {
		t.Errorf("GetU: %d, %d; want %d, %d", gotV, gotE, v, e)
	}
}

func wantGetS(t *testing.T, r *stream.Reader, v int64, e api.Errno) {
	t.Helper()
	if gotV, gotE := varint.GetS(r); gotV != v || gotE != e {
		t.Errorf("GetS: %d, %d; want %d, %d", gotV, gotE, v, e)
	}
}

// wantBoth: bytes that GetU tells as v, and GetS as s, all of them and no bit more.
func wantBoth(t *testing.T, b []byte, v uint64, s int64) {
	t.Helper()
	// The bytes behind are of other numbers, and must not be read.
	longer := append(bytes.Clone(b), 0xff, 0x01)
	for _, bits := range []int{8 * len(b), 8*len(b) + 5, 8 * len(longer)} {
		r := reader(t, longer, bits)
		wantGetU(t, r, v, api.OK)
		wantPos(t, r, 8*len(b), bits-8*len(b))
		r = reader(t, longer, bits)
		wantGetS(t, r, s, api.OK)
		wantPos(t, r, 8*len(b), bits-8*len(b))
	}
}

func wantPos(t *testing.T, r *stream.Reader, pos, left int) {
	t.Helper()
	if r.Pos() != pos || r.Left() != left || r.Short() {
		t.Errorf("reader: pos %d, left %d, short %v; want %d, %d, false", r.Pos(), r.Left(), r.Short(), pos, left)
	}
}

// wantRefused: the first bits of bytes, that GetU and GetS refuse so, with nothing beside the error.
func wantRefused(t *testing.T, b []byte, bits int, e api.Errno) {
	t.Helper()
	wantGetU(t, reader(t, b, bits), 0, e)
	wantGetS(t, reader(t, b, bits), 0, e)
}

// run: n bytes of one kind, and the others behind them.
func run(n int, of byte, behind ...byte) []byte {
	return append(bytes.Repeat([]byte{of}, n), behind...)
}

// number: a number without a sign, its bytes, and the signed number that is told so.
type number struct {
	v uint64
	b []byte
	s int64
}

// edges: the least and the greatest number of each count of bytes, as the chapter says them, and some between.
func edges() []number {
	return []number{
		{0, run(0, 0, 0x00), 0},
		{1, run(0, 0, 0x01), -1},
		{2, run(0, 0, 0x02), 1},
		{3, run(0, 0, 0x03), -2},
		{64, run(0, 0, 0x40), 32},
		{1<<7 - 1, run(0, 0, 0x7f), -1 << 6},
		{1 << 7, run(1, 0x80, 0x01), 1 << 6},
		{300, []byte{0xac, 0x02}, 150},
		{1<<14 - 1, run(1, 0xff, 0x7f), -1 << 13},
		{1 << 14, run(2, 0x80, 0x01), 1 << 13},
		{1<<21 - 1, run(2, 0xff, 0x7f), -1 << 20},
		{1 << 21, run(3, 0x80, 0x01), 1 << 20},
		{1<<28 - 1, run(3, 0xff, 0x7f), -1 << 27},
		{1 << 28, run(4, 0x80, 0x01), 1 << 27},
		{1<<32 - 1, run(4, 0xff, 0x0f), -1 << 31},
		{1 << 32, run(4, 0x80, 0x10), 1 << 31},
		{1<<35 - 1, run(4, 0xff, 0x7f), -1 << 34},
		{1 << 35, run(5, 0x80, 0x01), 1 << 34},
		{1<<42 - 1, run(5, 0xff, 0x7f), -1 << 41},
		{1 << 42, run(6, 0x80, 0x01), 1 << 41},
		{1<<49 - 1, run(6, 0xff, 0x7f), -1 << 48},
		{1 << 49, run(7, 0x80, 0x01), 1 << 48},
		{1<<56 - 1, run(7, 0xff, 0x7f), -1 << 55},
		{1 << 56, run(8, 0x80, 0x01), 1 << 55},
		{1<<63 - 1, run(8, 0xff, 0x7f), -1 << 62},
		{1 << 63, run(9, 0x80, 0x01), 1 << 62},
		{0x8123456789abcdef, []byte{0xef, 0x9b, 0xaf, 0xcd, 0xf8, 0xac, 0xd1, 0x91, 0x81, 0x01}, -0x4091a2b3c4d5e6f8},
		{math.MaxUint64 - 1, append([]byte{0xfe}, run(8, 0xff, 0x01)...), math.MaxInt64},
		{math.MaxUint64, run(9, 0xff, 0x01), math.MinInt64},
	}
}

// any64: numbers of any length, so that short ones come as often as long ones.
func any64(random *rand.Rand) uint64 { return random.Uint64() >> random.Intn(64) }

// P3.1

func TestZigAndZag(t *testing.T) {
	for _, c := range edges() {
		if got := varint.Zig(c.s); got != c.v {
			t.Errorf("Zig(%d): %d; want %d", c.s, got, c.v)
		}
		if got := varint.Zag(c.v); got != c.s {
			t.Errorf("Zag(%d): %d; want %d", c.v, got, c.s)
		}
	}
}

func TestZigTellsNumbersInTurn(t *testing.T) {
	// 0, -1, 1, -2, 2, ..: each is what the one two ahead is, and one farther from 0.
	at, below := int64(0), int64(-1)
	for v := uint64(0); v < 2000; v += 2 {
		if varint.Zig(at) != v || varint.Zag(v) != at {
			t.Fatalf("Zig(%d): %d; Zag(%d): %d", at, varint.Zig(at), v, varint.Zag(v))
		}
		if varint.Zig(below) != v+1 || varint.Zag(v+1) != below {
			t.Fatalf("Zig(%d): %d; Zag(%d): %d", below, varint.Zig(below), v+1, varint.Zag(v+1))
		}
		at++
		below--
	}
}

func TestZagUndoesZig(t *testing.T) {
	random := rand.New(rand.NewSource(3))
	for range 20000 {
		v := any64(random)
		if got := varint.Zig(varint.Zag(v)); got != v {
			t.Fatalf("Zig(Zag(%d)): %d", v, got)
		}
		if got := varint.Zag(varint.Zig(int64(v))); got != int64(v) {
			t.Fatalf("Zag(Zig(%d)): %d", int64(v), got)
		}
	}
}

func TestLen(t *testing.T) {
	for _, c := range edges() {
		if got := varint.Len(c.v); got != len(c.b) {
			t.Errorf("Len(%d): %d; want %d", c.v, got, len(c.b))
		}
	}
}

func TestPut(t *testing.T) {
	for _, c := range edges() {
		w := writer(t, nil, 0)
		varint.PutU(w, c.v)
		if w.Len() != 8*len(c.b) || !bytes.Equal(w.Bytes(), c.b) {
			t.Errorf("PutU(%d): %d bits, %x; want %x", c.v, w.Len(), w.Bytes(), c.b)
		}
		w = writer(t, nil, 0)
		varint.PutS(w, c.s)
		if w.Len() != 8*len(c.b) || !bytes.Equal(w.Bytes(), c.b) {
			t.Errorf("PutS(%d): %d bits, %x; want %x", c.s, w.Len(), w.Bytes(), c.b)
		}
	}
}

func TestPutBehindBits(t *testing.T) {
	for _, c := range edges() {
		for bits := range 18 {
			want := writer(t, []byte{0xa5, 0x3c, 0xff}, bits)
			for _, b := range c.b {
				want.Put(uint64(b), 8)
			}
			u := writer(t, []byte{0xa5, 0x3c, 0xff}, bits)
			varint.PutU(u, c.v)
			s := writer(t, []byte{0xa5, 0x3c, 0xff}, bits)
			varint.PutS(s, c.s)
			for _, w := range []*stream.Writer{u, s} {
				if w.Len() != want.Len() || !bytes.Equal(w.Bytes(), want.Bytes()) {
					t.Errorf("%d behind %d bits: %d bits, %x; want %x", c.v, bits, w.Len(), w.Bytes(), want.Bytes())
				}
			}
		}
	}
}

func TestPutOneBehindTheOther(t *testing.T) {
	w := writer(t, []byte{0x80}, 1)
	varint.PutU(w, 300)
	varint.PutS(w, -1)
	w.Bit(true)
	varint.PutU(w, 0)
	// 1 | 10101100 00000010 | 00000001 | 1 | 00000000
	if want := []byte{0xd6, 0x01, 0x00, 0xc0, 0x00}; w.Len() != 34 || !bytes.Equal(w.Bytes(), want) {
		t.Errorf("%d bits, %x; want 34, %x", w.Len(), w.Bytes(), want)
	}
}

// bytesOf: a number's bytes as the chapter says them, from how many bits it has, in another way than by what is left of it.
func bytesOf(v uint64) []byte {
	count := 1
	for count < 10 && v >= 1<<(7*count) {
		count++
	}
	b := make([]byte, count)
	for i := range 64 {
		if i < 7*count && v&(1<<i) != 0 {
			b[i/7] |= 1 << (i % 7)
		}
	}
	for i := range count - 1 {
		b[i] += 128
	}
	return b
}

func TestPutAgainstAModel(t *testing.T) {
	random := rand.New(rand.NewSource(4))
	for range 20000 {
		v := any64(random)
		want := bytesOf(v)
		w := writer(t, nil, 0)
		varint.PutU(w, v)
		if !bytes.Equal(w.Bytes(), want) || varint.Len(v) != len(want) {
			t.Fatalf("PutU(%d): %x, of length %d; want %x", v, w.Bytes(), varint.Len(v), want)
		}
	}
}

// P3.2

func TestGet(t *testing.T) {
	for _, c := range edges() {
		wantBoth(t, c.b, c.v, c.s)
	}
}

func TestGetShort(t *testing.T) {
	for bits := range 8 {
		wantRefused(t, []byte{0x05}, bits, api.ErrShort)
		wantRefused(t, []byte{0xff}, bits, api.ErrShort)
		for count := 1; count <= 9; count++ {
			for _, of := range []byte{0x80, 0x81, 0xff} {
				for _, behind := range []byte{0x00, 0x01, 0x80, 0xff} {
					wantRefused(t, run(count, of, behind), 8*count+bits, api.ErrShort)
				}
			}
		}
	}
	wantRefused(t, nil, 0, api.ErrShort)
}

func TestGetShortBehindBits(t *testing.T) {
	r := reader(t, []byte{0xff, 0x80}, 12)
	r.Get(5)
	wantGetU(t, r, 0, api.ErrShort)
	r = reader(t, []byte{0xff, 0x80}, 12)
	r.Get(5)
	wantGetS(t, r, 0, api.ErrShort)
}

func TestGetOfAReaderThatFellShort(t *testing.T) {
	r := reader(t, []byte{0x05, 0x05}, 16)
	r.Get(17)
	wantGetU(t, r, 0, api.ErrShort)
	wantGetS(t, r, 0, api.ErrShort)
}

func TestGetAtTheTenthByte(t *testing.T) {
	for _, of := range []byte{0x80, 0x81, 0xff} {
		for b := range 256 {
			got := run(9, of, byte(b))
			switch b {
			case 0:
				wantRefused(t, got, 80, api.ErrForm)
			case 1:
				if v, e := varint.GetU(reader(t, got, 80)); v>>63 != 1 || e != api.OK {
					t.Errorf("GetU(%x): %d, %d", got, v, e)
				}
			default:
				wantRefused(t, got, 80, api.ErrBig)
				// Whether an eleventh byte is there or not: the tenth one is refused.
				wantRefused(t, append(got, 0x00, 0x01), 96, api.ErrBig)
				wantRefused(t, append(got, 0x01), 84, api.ErrBig)
			}
		}
	}
	wantBoth(t, run(9, 0x80, 0x01), 1<<63, 1<<62)
	wantBoth(t, run(9, 0xff, 0x01), math.MaxUint64, math.MinInt64)
}

func TestGetWithANoughtAtTheEnd(t *testing.T) {
	wantBoth(t, []byte{0x00}, 0, 0)
	for count := 1; count <= 9; count++ {
		for _, of := range []byte{0x80, 0x81, 0xc0, 0xff} {
			wantRefused(t, run(count, of, 0x00), 8*(count+1), api.ErrForm)
			wantRefused(t, run(count, of, 0x00, 0x7f), 8*(count+2), api.ErrForm)
		}
	}
}

func TestGetWithNoughtsInTheMidst(t *testing.T) {
	// A byte of no bits but the highest one is right, where it isn't the last one.
	wantBoth(t, []byte{0x80, 0x80, 0x01}, 1<<14, 1<<13)
	wantBoth(t, []byte{0x81, 0x80, 0x80, 0x02}, 1<<22+1, -(1<<21)-1)
}

func TestGetOneBehindTheOther(t *testing.T) {
	w := writer(t, nil, 0)
	for _, c := range edges() {
		varint.PutU(w, c.v)
		varint.PutS(w, c.s)
	}
	r := reader(t, w.Bytes(), w.Len())
	at := 0
	for _, c := range edges() {
		wantGetU(t, r, c.v, api.OK)
		wantGetS(t, r, c.s, api.OK)
		at += 16 * len(c.b)
		wantPos(t, r, at, w.Len()-at)
	}
	wantGetU(t, r, 0, api.ErrShort)
}

func TestGetWhatWasPutBehindBits(t *testing.T) {
	random := rand.New(rand.NewSource(5))
	for range 2000 {
		bits, v, s := 1+random.Intn(20), any64(random), int64(any64(random))
		w := writer(t, nil, 0)
		w.Put(random.Uint64(), bits)
		varint.PutU(w, v)
		w.Bit(true)
		varint.PutS(w, s)
		r := reader(t, w.Bytes(), w.Len())
		r.Get(bits)
		wantGetU(t, r, v, api.OK)
		if !r.Bit() {
			t.Fatalf("the bit behind %d is lost", v)
		}
		wantGetS(t, r, s, api.OK)
		wantPos(t, r, w.Len(), 0)
	}
}

// getOf: what GetU must tell of bytes, and how many of them it has, by the promise's words.
func getOf(b []byte) (uint64, int, api.Errno) {
	for i, at := range b {
		if i == 9 && (at > 1 || at&0x80 != 0) {
			return 0, 0, api.ErrBig
		}
		if at >= 0x80 {
			continue
		}
		if at == 0 && i != 0 {
			return 0, 0, api.ErrForm
		}
		v := uint64(0)
		for j := i; j >= 0; j-- {
			v = v*128 + uint64(b[j]%128)
		}
		return v, i + 1, api.OK
	}
	return 0, 0, api.ErrShort
}

func TestGetAgainstAModel(t *testing.T) {
	random := rand.New(rand.NewSource(6))
	for range 50000 {
		b := make([]byte, random.Intn(14))
		highest := random.Intn(5) // some lists are mostly of bytes with the highest bit set, so that tenth bytes come
		for i := range b {
			b[i] = byte(random.Intn(256) >> random.Intn(8))
			if random.Intn(4) < highest {
				b[i] |= 0x80
			}
		}
		v, count, e := getOf(b)
		r := reader(t, b, 8*len(b))
		wantGetU(t, r, v, e)
		wantGetS(t, reader(t, b, 8*len(b)), varint.Zag(v), e)
		if e == api.OK {
			wantPos(t, r, 8*count, 8*(len(b)-count))
			wantPutAgain(t, v, b[:count])
		}
	}
}

// wantPutAgain: bytes that were told as a number are those that it is put as, for there is one way to say it.
func wantPutAgain(t *testing.T, v uint64, b []byte) {
	t.Helper()
	w := writer(t, nil, 0)
	varint.PutU(w, v)
	if !bytes.Equal(w.Bytes(), b) {
		t.Errorf("PutU(%d): %x; want %x", v, w.Bytes(), b)
	}
}
