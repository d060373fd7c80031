package threshold_test

import (
	"bytes"
	"math"
	"math/big"
	"math/rand"
	"testing"

	"tidepole/api"
	"tidepole/stream"
	"tidepole/threshold"
)

// infinite is the bits of the least float that is no right threshold.
const infinite = 0x7ff0000000000000

func writer(t *testing.T, b []byte, bits int) *stream.Writer {
	t.Helper()
	w, e := stream.NewWriter(b, bits)
	if e != api.OK {
		t.Fatalf("NewWriter(%x, %d): %d", b, bits, e)
	}
	return w
}

func reader(t *testing.T, b []byte, bits int) *stream.Reader {
	t.Helper()
	r, e := stream.NewReader(b, bits)
	if e != api.OK {
		t.Fatalf("NewReader(%x, %d): %d", b, bits, e)
	}
	return r
}

func wantWriter(t *testing.T, w *stream.Writer, bits int, b []byte) {
	t.Helper()
	if w.Len() != bits || !bytes.Equal(w.Bytes(), b) {
		t.Errorf("writer: %d bits, %x; want %d, %x", w.Len(), w.Bytes(), bits, b)
	}
}

func wantReader(t *testing.T, r *stream.Reader, pos, left int) {
	t.Helper()
	if r.Pos() != pos || r.Left() != left || r.Short() {
		t.Errorf("reader: pos %d, left %d, short %v; want %d, %d, false", r.Pos(), r.Left(), r.Short(), pos, left)
	}
}

func wantPut(t *testing.T, w *stream.Writer, v uint64, e api.Errno) {
	t.Helper()
	if got := threshold.Put(w, v); got != e {
		t.Errorf("Put(%016x): %d; want %d", v, got, e)
	}
}

func wantGet(t *testing.T, r *stream.Reader, v uint64, e api.Errno) {
	t.Helper()
	if gotV, gotE := threshold.Get(r); gotV != v || gotE != e {
		t.Errorf("Get: %016x, %d; want %016x, %d", gotV, gotE, v, e)
	}
}

func wantLen(t *testing.T, v uint64, n int) {
	t.Helper()
	if got := threshold.Len(v); got != n {
		t.Errorf("Len(%016x): %d; want %d", v, got, n)
	}
}

func wantPower(t *testing.T, v uint64, power int, ok bool) {
	t.Helper()
	if gotPower, gotOk := threshold.Power(v); gotPower != power || gotOk != ok {
		t.Errorf("Power(%016x): %d, %v; want %d, %v", v, gotPower, gotOk, power, ok)
	}
}

func wantOf(t *testing.T, power int, v uint64, ok bool) {
	t.Helper()
	if gotV, gotOk := threshold.Of(power); gotV != v || gotOk != ok {
		t.Errorf("Of(%d): %016x, %v; want %016x, %v", power, gotV, gotOk, v, ok)
	}
}

// two: the bits of 2^power, by arithmetic and not by what bits a float has.
func two(power int) uint64 { return math.Float64bits(math.Ldexp(1, power)) }

// long: the byte 255 and 64 bits, from the highest one on.
func long(v uint64) []byte {
	b := []byte{255}
	for i := 56; i >= 0; i -= 8 {
		b = append(b, byte(v>>i))
	}
	return b
}

// others: right thresholds that have no byte by themselves.
func others() []uint64 {
	l := []uint64{
		1,                            // the least above 0, 2^-1074
		2, 1 << 30, 1 << 50, 1 << 51, // powers of two below the least normal float
		3, 0xfffff, 1<<51 + 1, 1<<52 - 1, // others below it
		1 << 52, 1<<52 + 1, // the least normal one, and the next one
		two(-245), two(-244), two(11), two(12), two(1023),
		infinite - 1, // the greatest finite one
		math.Float64bits(1.5), math.Float64bits(3), math.Float64bits(0.1), math.Float64bits(1000), math.Float64bits(1023.5), math.Float64bits(2049),
	}
	for power := -244; power <= 11; power++ {
		l = append(l, two(power)-1, two(power)+1, two(power)+1<<51)
	}
	return l
}

// wrongs: what isn't right as a threshold.
func wrongs() []uint64 {
	l := []uint64{
		infinite, infinite + 1, 0x7ff8000000000000, 1<<63 - 1, // infinite, and no number
		1 << 63, 1<<63 + 1, 1<<63 | 1<<52, // a nought with a sign, and floats below 0
		1<<63 | infinite - 1, 1<<63 | infinite, 1<<63 | infinite + 1,
		math.MaxUint64 - 1, math.MaxUint64,
		math.Float64bits(-1.5),
	}
	for power := -244; power <= 11; power++ {
		l = append(l, 1<<63|two(power))
	}
	return l
}

// kind: a right threshold, and how it is put.
type kind struct {
	v uint64
	b []byte
}

// kinds: of each kind of right thresholds, all that are named and that have a byte by themselves.
func kinds() []kind {
	l := []kind{{0, []byte{0}}}
	for power := -243; power <= 10; power++ {
		l = append(l, kind{two(power), []byte{byte(244 + power)}})
	}
	for _, v := range others() {
		l = append(l, kind{v, long(v)})
	}
	return l
}

// Of the bytes at its edges the tests must not lean on arithmetic alone.
func TestKindsAreThoseOfTheChapter(t *testing.T) {
	for v, b := range map[uint64][]byte{
		0x0000000000000000: {0x00},
		0x30c0000000000000: {0x01},
		0x30d0000000000000: {0x02},
		0x3fe0000000000000: {0xf3},
		0x3ff0000000000000: {0xf4},
		0x4000000000000000: {0xf5},
		0x4080000000000000: {0xfd},
		0x4090000000000000: {0xfe},
		0x40a0000000000000: {0xff, 0x40, 0xa0, 0, 0, 0, 0, 0, 0},
		0x30b0000000000000: {0xff, 0x30, 0xb0, 0, 0, 0, 0, 0, 0},
		0x30bfffffffffffff: {0xff, 0x30, 0xbf, 0xff, 0xff, 0xff, 0xff, 0xff, 0xff},
		0x7fefffffffffffff: {0xff, 0x7f, 0xef, 0xff, 0xff, 0xff, 0xff, 0xff, 0xff},
		0x0123456789abcdef: {0xff, 0x01, 0x23, 0x45, 0x67, 0x89, 0xab, 0xcd, 0xef},
	} {
		w := writer(t, nil, 0)
		wantPut(t, w, v, api.OK)
		wantWriter(t, w, 8*len(b), b)
		wantLen(t, v, 8*len(b))
		r := reader(t, b, 8*len(b))
		wantGet(t, r, v, api.OK)
		wantReader(t, r, 8*len(b), 0)
	}
}

// P12.1

func TestExamplesOfTheChapter(t *testing.T) {
	w := writer(t, nil, 0)
	wantPut(t, w, math.Float64bits(1), api.OK)
	wantWriter(t, w, 8, []byte{244})
	wantPut(t, w, math.Float64bits(math.Ldexp(1, -243)), api.OK)
	wantWriter(t, w, 16, []byte{244, 1})
	r := reader(t, []byte{244, 1}, 16)
	wantGet(t, r, math.Float64bits(1), api.OK)
	wantGet(t, r, math.Float64bits(math.Ldexp(1, -243)), api.OK)
}

func TestPut(t *testing.T) {
	for _, c := range kinds() {
		w := writer(t, nil, 0)
		wantPut(t, w, c.v, api.OK)
		wantWriter(t, w, 8*len(c.b), c.b)
	}
}

func TestPutBehindBits(t *testing.T) {
	for _, c := range kinds() {
		for bits := range 18 {
			want := writer(t, []byte{0xa5, 0x3c, 0xff}, bits)
			for _, b := range c.b {
				want.Put(uint64(b), 8)
			}
			w := writer(t, []byte{0xa5, 0x3c, 0xff}, bits)
			wantPut(t, w, c.v, api.OK)
			wantWriter(t, w, bits+8*len(c.b), want.Bytes())
		}
	}
}

func TestPutOneBehindTheOther(t *testing.T) {
	w := writer(t, []byte{0xe0}, 3)
	wantPut(t, w, 0, api.OK)
	wantPut(t, w, two(10), api.OK)
	w.Bit(true)
	wantPut(t, w, two(11), api.OK)
	// 111 | 00000000 | 11111110 | 1 | 11111111 01000000 10100000 00000000 ..
	wantWriter(t, w, 92, []byte{0xe0, 0x1f, 0xdf, 0xf4, 0x0a, 0, 0, 0, 0, 0, 0, 0})
}

func TestPutOfWhatIsNotRight(t *testing.T) {
	for _, v := range wrongs() {
		for bits := range 18 {
			whole := []byte{0xa5, 0x3c, 0xff}
			want := writer(t, whole, bits)
			w := writer(t, whole, bits)
			wantPut(t, w, v, api.ErrRange)
			wantWriter(t, w, want.Len(), want.Bytes())
			wantPut(t, w, two(0), api.OK)
			wantPut(t, w, v, api.ErrRange)
			wantPut(t, w, math.Float64bits(1.5), api.OK)
			want.Put(244, 8)
			want.Put(255, 8)
			want.Put(0x3ff8000000000000, 64)
			wantWriter(t, w, bits+80, want.Bytes())
		}
	}
}

func TestLen(t *testing.T) {
	for _, c := range kinds() {
		wantLen(t, c.v, 8*len(c.b))
	}
	for _, v := range wrongs() {
		wantLen(t, v, 0)
	}
}

func TestGet(t *testing.T) {
	for _, c := range kinds() {
		// The bits behind are another threshold's, and must not be read.
		longer := append(bytes.Clone(c.b), 0xff, 0xff, 0x01)
		for _, bits := range []int{8 * len(c.b), 8*len(c.b) + 1, 8*len(c.b) + 7, 8 * len(longer)} {
			r := reader(t, longer, bits)
			wantGet(t, r, c.v, api.OK)
			wantReader(t, r, 8*len(c.b), bits-8*len(c.b))
		}
	}
}

func TestGetOfEachByte(t *testing.T) {
	for b := range 256 {
		r := reader(t, []byte{byte(b)}, 8)
		switch b {
		case 0:
			wantGet(t, r, 0, api.OK)
		case 255:
			wantGet(t, r, 0, api.ErrShort)
			continue // what was read ahead of the error is not said
		default:
			wantGet(t, r, two(b-244), api.OK)
		}
		wantReader(t, r, 8, 0)
	}
}

func TestGetOfLessThanAByte(t *testing.T) {
	wantGet(t, reader(t, nil, 0), 0, api.ErrShort)
	for bits := range 8 {
		for b := range 256 {
			wantGet(t, reader(t, []byte{byte(b), 0xff}, bits), 0, api.ErrShort)
		}
	}
}

func TestGetOfTooFewBitsBehindTheByte(t *testing.T) {
	all := []uint64{0, two(-243), two(0), two(10), two(-244), two(11), math.Float64bits(1.5), infinite - 1, infinite, 1 << 63, math.MaxUint64}
	for bits := range 64 {
		for _, v := range all { // whatever they are, right or not: they are too few
			wantGet(t, reader(t, long(v), 8+bits), 0, api.ErrShort)
		}
	}
}

func TestGetOfTooFewBitsBehindOthers(t *testing.T) {
	for ahead := 1; ahead < 18; ahead++ {
		for _, bits := range []int{0, 1, 7} {
			r := reader(t, bytes.Repeat([]byte{0}, 4), ahead+bits)
			r.Get(ahead)
			wantGet(t, r, 0, api.ErrShort)
		}
		for _, bits := range []int{8, 9, 8 + 63} {
			r := reader(t, bytes.Repeat([]byte{255}, 12), ahead+bits)
			r.Get(ahead)
			wantGet(t, r, 0, api.ErrShort)
		}
	}
}

func TestGetOfAReaderThatFellShort(t *testing.T) {
	r := reader(t, []byte{244, 244}, 16)
	r.Get(17)
	wantGet(t, r, 0, api.ErrShort)
}

func TestGetOfBitsThatAreNotRight(t *testing.T) {
	for _, v := range wrongs() {
		wantGet(t, reader(t, long(v), 72), 0, api.ErrRange)
		wantGet(t, reader(t, append(long(v), 244), 80), 0, api.ErrRange)
	}
}

func TestGetOfBitsThatHaveAByte(t *testing.T) {
	wantGet(t, reader(t, long(0), 72), 0, api.ErrForm)
	wantGet(t, reader(t, append(long(0), 244), 80), 0, api.ErrForm)
	for power := -243; power <= 10; power++ {
		wantGet(t, reader(t, long(two(power)), 72), 0, api.ErrForm)
		wantGet(t, reader(t, append(long(two(power)), 244), 80), 0, api.ErrForm)
	}
}

func TestGetRefusedBehindBits(t *testing.T) {
	for v, e := range map[uint64]api.Errno{0: api.ErrForm, two(-243): api.ErrForm, two(10): api.ErrForm, infinite: api.ErrRange, 1 << 63: api.ErrRange, math.MaxUint64: api.ErrRange} {
		for ahead := 1; ahead < 18; ahead++ {
			w := writer(t, []byte{0xa5, 0x3c, 0xff}, ahead)
			w.Put(255, 8)
			w.Put(v, 64)
			w.Put(5, 3)
			r := reader(t, w.Bytes(), w.Len())
			r.Get(ahead)
			wantGet(t, r, 0, e)
		}
	}
}

func TestGetOneBehindTheOther(t *testing.T) {
	w := writer(t, []byte{0x80}, 3)
	for i, c := range kinds() {
		wantPut(t, w, c.v, api.OK)
		w.Bit(i%2 == 0)
	}
	r := reader(t, w.Bytes(), w.Len())
	r.Get(3)
	at := 3
	for i, c := range kinds() {
		wantGet(t, r, c.v, api.OK)
		at += 8 * len(c.b)
		wantReader(t, r, at, w.Len()-at)
		if r.Bit() != (i%2 == 0) {
			t.Fatalf("the bit behind %016x is lost", c.v)
		}
		at++
	}
	wantGet(t, r, 0, api.ErrShort)
}

// P12.2

func TestPowerAndOf(t *testing.T) {
	for power := -243; power <= 10; power++ {
		wantPower(t, two(power), power, true)
		wantOf(t, power, two(power), true)
	}
	wantPower(t, 0x3ff0000000000000, 0, true)
	wantPower(t, 0x3fd0000000000000, -2, true)
	wantPower(t, 0x30c0000000000000, -243, true)
	wantPower(t, 0x4090000000000000, 10, true)
	wantOf(t, 0, 0x3ff0000000000000, true)
	wantOf(t, -2, 0x3fd0000000000000, true)
	wantOf(t, -243, 0x30c0000000000000, true)
	wantOf(t, 10, 0x4090000000000000, true)
}

func TestPowerOfWhatIsNone(t *testing.T) {
	wantPower(t, 0, 0, false)
	for _, v := range others() {
		wantPower(t, v, 0, false)
	}
	for _, v := range wrongs() {
		wantPower(t, v, 0, false)
	}
}

func TestPowerOfEachSingleBitMore(t *testing.T) {
	for power := -243; power <= 10; power++ {
		for i := range 52 { // a bit behind the exponent makes it no power of two, whichever it is
			wantPower(t, two(power)|1<<i, 0, false)
		}
	}
}

func TestPowerOfEachExponent(t *testing.T) {
	for e := range uint64(1 << 12) { // with a sign, too
		power := int(e) - 1023
		if power >= -243 && power <= 10 {
			wantPower(t, e<<52, power, true)
		} else {
			wantPower(t, e<<52, 0, false)
		}
	}
}

func TestOfBeyondReach(t *testing.T) {
	for _, power := range []int{
		-244, 11, -245, 12, -1022, -1023, -1024, -1074, 1023, 1024, 1025,
		math.MinInt, math.MinInt + 1, math.MaxInt, math.MaxInt - 1, math.MaxInt - 1023,
	} {
		wantOf(t, power, 0, false)
	}
	for i := 8; i < 64; i++ { // such as would be in reach, if only their lowest bits were seen
		wantOf(t, -243-1<<i, 0, false)
		wantOf(t, 10+1<<i, 0, false)
	}
	for power := -5000; power <= 5000; power++ {
		if power < -243 || power > 10 {
			wantOf(t, power, 0, false)
		}
	}
}

func TestOfAndPowerUndoEachOther(t *testing.T) {
	for b := 1; b <= 254; b++ {
		v, ok := threshold.Of(b - 244)
		if !ok {
			t.Fatalf("Of(%d): %v", b-244, ok)
		}
		power, ok := threshold.Power(v)
		if power != b-244 || !ok {
			t.Fatalf("Power(Of(%d)): %d, %v", b-244, power, ok)
		}
		again, ok := threshold.Of(power)
		if again != v || !ok {
			t.Fatalf("Of(Power(%016x)): %016x, %v", v, again, ok)
		}
	}
}

// powerOf: whether a float is a power of two in reach, and which, as a number of any size and not by its bits.
func powerOf(v uint64) (int, bool) {
	f := math.Float64frombits(v)
	if math.IsNaN(f) || math.IsInf(f, 0) || f <= 0 {
		return 0, false
	}
	n := new(big.Float).SetFloat64(f)
	power := n.MantExp(nil) - 1 // a half of a power of two is what is left of it
	if n.Cmp(new(big.Float).SetMantExp(big.NewFloat(1), power)) != 0 || power < -243 || power > 10 {
		return 0, false
	}
	return power, true
}

// bytesOf: what a threshold is put as, by the chapter's words; nothing, if it isn't right.
func bytesOf(v uint64) []byte {
	f := math.Float64frombits(v)
	if math.IsNaN(f) || math.IsInf(f, 0) || math.Signbit(f) {
		return nil
	}
	if f == 0 {
		return []byte{0}
	}
	if power, ok := powerOf(v); ok {
		return []byte{byte(244 + power)}
	}
	return long(v)
}

// any64: bits of any kind, those of powers of two and of their neighbours often among them.
func any64(random *rand.Rand) uint64 {
	switch random.Intn(5) {
	case 0:
		return random.Uint64()
	case 1:
		return random.Uint64() >> random.Intn(64)
	case 2:
		return random.Uint64() << 52
	case 3:
		return two(random.Intn(300)-270) + uint64(random.Intn(3)) - 1
	}
	return two(random.Intn(254) - 243)
}

func TestAgainstAModel(t *testing.T) {
	random := rand.New(rand.NewSource(12))
	for range 50000 {
		v := any64(random)
		power, ok := powerOf(v)
		wantPower(t, v, power, ok)
		b := bytesOf(v)
		wantLen(t, v, 8*len(b))
		w := writer(t, nil, 0)
		if b == nil {
			wantPut(t, w, v, api.ErrRange)
			wantGet(t, reader(t, long(v), 72), 0, api.ErrRange)
		} else {
			wantPut(t, w, v, api.OK)
			wantGet(t, reader(t, b, 8*len(b)), v, api.OK)
		}
		if len(b) == 1 {
			wantGet(t, reader(t, long(v), 72), 0, api.ErrForm)
		}
		wantWriter(t, w, 8*len(b), b)
		if t.Failed() {
			t.Fatalf("at %016x", v)
		}
	}
}

// getOf: what Get must tell of the first bits of nine bytes, and how many it reads, by the promise's words.
func getOf(b []byte, bits int) (uint64, int, api.Errno) {
	if bits < 8 {
		return 0, 0, api.ErrShort
	}
	if b[0] == 0 {
		return 0, 8, api.OK
	}
	if b[0] < 255 {
		return two(int(b[0]) - 244), 8, api.OK
	}
	if bits < 72 {
		return 0, 0, api.ErrShort
	}
	v := uint64(0)
	for _, at := range b[1:9] {
		v = v*256 + uint64(at)
	}
	switch len(bytesOf(v)) {
	case 0:
		return 0, 0, api.ErrRange
	case 1:
		return 0, 0, api.ErrForm
	}
	return v, 72, api.OK
}

func TestGetOfAnyBits(t *testing.T) {
	random := rand.New(rand.NewSource(13))
	for range 50000 {
		b := append(long(any64(random)), byte(random.Intn(256)))
		if random.Intn(3) == 0 {
			b[0] = byte(random.Intn(256))
		}
		bits := 72 + random.Intn(9)
		if random.Intn(3) == 0 {
			bits = random.Intn(73)
		}
		v, read, e := getOf(b, bits)
		r := reader(t, b, bits)
		wantGet(t, r, v, e)
		if e == api.OK {
			wantReader(t, r, read, bits-read)
			// What is told is put just as it was read, for there is one way to say it.
			w := writer(t, nil, 0)
			wantPut(t, w, v, api.OK)
			wantWriter(t, w, read, b[:read/8])
		}
		if t.Failed() {
			t.Fatalf("at %x of %d bits", b, bits)
		}
	}
}
