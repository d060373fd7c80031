package xor_test

import (
	"bytes"
	"fmt"
	"math"
	"math/rand"
	"strconv"
	"strings"
	"testing"

	"tidepole/api"
	"tidepole/stream"
	"tidepole/xor"
)

// model: a row by the chapter's words, whose bits are written as noughts and ones.
type model struct {
	last        uint64
	n           int
	ahead, bits int
}

// within: are the ones of these 64 bits in the window?
func (m *model) within(differs string) bool {
	return m.bits > 0 && strings.Index(differs, "1") >= m.ahead && strings.LastIndex(differs, "1") < m.ahead+m.bits
}

// put: a value's bits, which is the last one then.
func (m *model) put(v uint64) string {
	differs := word(v ^ m.last)
	first := m.n == 0
	m.last, m.n = v, m.n+1
	switch {
	case first:
		return word(v)
	case !strings.Contains(differs, "1"):
		return "0"
	case m.within(differs):
		return "10" + differs[m.ahead:m.ahead+m.bits]
	}
	m.ahead = min(strings.Index(differs, "1"), 31)
	m.bits = strings.LastIndex(differs, "1") + 1 - m.ahead
	return "11" + fmt.Sprintf("%05b%06b", m.ahead, m.bits%64) + differs[m.ahead:m.ahead+m.bits]
}

// get: what bits tell, and how many of them do. Nothing is changed beside an error.
func (m *model) get(bits string) (v uint64, used int, e api.Errno) {
	switch {
	case m.n == 0 && len(bits) < 64:
		return 0, 0, api.ErrShort
	case m.n == 0:
		m.last, m.n = number(bits[:64]), 1
		return m.last, 64, api.OK
	case strings.HasPrefix(bits, "0"):
		m.n++
		return m.last, 1, api.OK
	case len(bits) < 2 || bits[1] == '1' && len(bits) < 13:
		return 0, 0, api.ErrShort
	}
	at, ahead, width := 2, m.ahead, m.bits
	if bits[1] == '1' {
		at, ahead, width = 13, int(number(bits[2:7])), int(number(bits[7:13]))
		if width == 0 {
			width = 64
		}
		if ahead+width > 64 {
			return 0, 0, api.ErrForm
		}
	}
	if len(bits) < at+width {
		return 0, 0, api.ErrShort
	}
	some := bits[at : at+width]
	differs := strings.Repeat("0", ahead) + some + strings.Repeat("0", 64-ahead-width)
	begins := ahead == 31 || strings.HasPrefix(some, "1")
	ends := strings.HasSuffix(some, "1")
	if !strings.Contains(some, "1") || bits[1] == '1' && (!begins || !ends || m.within(differs)) {
		return 0, 0, api.ErrForm
	}
	m.last, m.n, m.ahead, m.bits = m.last^number(differs), m.n+1, ahead, width
	return m.last, at + width, api.OK
}

// word: all 64 bits of a value.
func word(v uint64) string { return fmt.Sprintf("%064b", v) }

// number: at most 64 bits as a number.
func number(bits string) uint64 {
	v, err := strconv.ParseUint(bits, 2, 64)
	if err != nil {
		panic(err)
	}
	return v
}

// zeros, ones: so many bits.
func zeros(n int) string { return strings.Repeat("0", n) }

func ones(n int) string { return strings.Repeat("1", n) }

// join: bits without the blanks that are for the eye.
func join(bits string) string { return strings.ReplaceAll(bits, " ", "") }

// pack: bits in bytes.
func pack(bits string) ([]byte, int) {
	bits = join(bits)
	b := make([]byte, (len(bits)+7)/8)
	for i, c := range bits {
		if c == '1' {
			b[i/8] |= 1 << (7 - i%8)
		}
	}
	return b, len(bits)
}

func writer(t *testing.T, bits string) *stream.Writer {
	t.Helper()
	b, n := pack(bits)
	w, e := stream.NewWriter(b, n)
	if e != api.OK {
		t.Fatalf("NewWriter(%x, %d): %d", b, n, e)
	}
	return w
}

func reader(t *testing.T, bits string) *stream.Reader {
	t.Helper()
	b, n := pack(bits)
	r, e := stream.NewReader(b, n)
	if e != api.OK {
		t.Fatalf("NewReader(%x, %d): %d", b, n, e)
	}
	return r
}

func wantWritten(t *testing.T, w *stream.Writer, bits string) {
	t.Helper()
	b, n := pack(bits)
	if w.Len() != n || !bytes.Equal(w.Bytes(), b) {
		t.Errorf("%d bits, %x; want %d, %x", w.Len(), w.Bytes(), n, b)
	}
}

func wantPos(t *testing.T, r *stream.Reader, pos, left int) {
	t.Helper()
	if r.Pos() != pos || r.Left() != left || r.Short() {
		t.Errorf("reader: pos %d, left %d, short %v; want %d, %d, false", r.Pos(), r.Left(), r.Short(), pos, left)
	}
}

// wantRow: what a row tells of itself.
func wantRow(t *testing.T, x *xor.Row, n int, last uint64, ahead, bits int) {
	t.Helper()
	a, b := x.Window()
	if x.Len() != n || x.Last() != last || a != ahead || b != bits {
		t.Errorf("row: %d values, last %x, window %d, %d; want %d, %x, %d, %d", x.Len(), x.Last(), a, b, n, last, ahead, bits)
	}
}

// wantPut: one more is put as these bits, at the cost that is told ahead of it, which changes nothing.
func wantPut(t *testing.T, x *xor.Row, v uint64, bits string) {
	t.Helper()
	n, last := x.Len(), x.Last()
	ahead, width := x.Window()
	if got := x.Cost(v); got != len(join(bits)) {
		t.Errorf("Cost(%x): %d; want %d", v, got, len(join(bits)))
	}
	wantRow(t, x, n, last, ahead, width)
	w := writer(t, "")
	x.Put(w, v)
	wantWritten(t, w, bits)
	if x.Len() != n+1 || x.Last() != v {
		t.Errorf("behind Put(%x): %d values, last %x; want %d", v, x.Len(), x.Last(), n+1)
	}
}

// wantGet: bits are read as a value, and those behind them aren't read.
func wantGet(t *testing.T, x *xor.Row, bits string, v uint64) {
	t.Helper()
	n := x.Len()
	for _, behind := range []string{"", "0", "1011", ones(80)} {
		c, r := x.Copy(), reader(t, bits+behind)
		if got, e := c.Get(r); got != v || e != api.OK {
			t.Errorf("Get of %s: %x, %d; want %x", bits, got, e, v)
		}
		wantPos(t, r, len(join(bits)), len(behind))
	}
	x.Get(reader(t, bits))
	if x.Len() != n+1 || x.Last() != v {
		t.Errorf("behind Get of %x: %d values, last %x; want %d", v, x.Len(), x.Last(), n+1)
	}
}

// wantSame: two rows tell the same of themselves, put the same and read the same. Neither is changed.
func wantSame(t *testing.T, x, y *xor.Row) {
	t.Helper()
	ahead, width := y.Window()
	wantRow(t, x, y.Len(), y.Last(), ahead, width)
	for _, differs := range []uint64{0, 1, 1 << 63, 1 << 32, 0xff << 36, 1 << 44, 1 << 35, math.MaxUint64} {
		v := y.Last() ^ differs
		if x.Cost(v) != y.Cost(v) {
			t.Errorf("Cost(%x): %d; want %d", v, x.Cost(v), y.Cost(v))
		}
		xs, ys, w := x.Copy(), y.Copy(), writer(t, "")
		ys.Put(w, v)
		r, _ := stream.NewReader(w.Bytes(), w.Len())
		if got, e := xs.Get(r); got != v || e != api.OK || xs.Len() != ys.Len() {
			t.Errorf("Get: %x, %d, %d values; want %x, 0, %d", got, e, xs.Len(), v, ys.Len())
		}
		xs, put := x.Copy(), writer(t, "")
		xs.Put(put, v)
		if put.Len() != w.Len() || !bytes.Equal(put.Bytes(), w.Bytes()) {
			t.Errorf("Put(%x): %d bits, %x; want %d, %x", v, put.Len(), put.Bytes(), w.Len(), w.Bytes())
		}
	}
}

// wantRefused: bits that Get refuses so, with nothing beside the error, and the row stays as it was.
func wantRefused(t *testing.T, x *xor.Row, bits string, e api.Errno) {
	t.Helper()
	was := x.Copy()
	if v, got := x.Get(reader(t, bits)); v != 0 || got != e {
		t.Errorf("Get of %s: %x, %d; want 0, %d", bits, v, got, e)
	}
	wantSame(t, x, was)
}

// rowOf: with these values.
func rowOf(t *testing.T, values ...uint64) *xor.Row {
	t.Helper()
	x, w := xor.New(), writer(t, "")
	for _, v := range values {
		x.Put(w, v)
	}
	return x
}

// rows: without values, without a window, and with windows at either side, in the midst, of one bit, of 31 noughts ahead, and of all bits.
func rows(t *testing.T) []*xor.Row {
	t.Helper()
	return []*xor.Row{
		xor.New(),
		rowOf(t, 0),
		rowOf(t, 0x123456789abcdef0, 0x123456789abcdef0),
		rowOf(t, 0, 0xff<<36),
		rowOf(t, 7, 7|0xff<<36, 7),
		rowOf(t, 0, 1<<63),
		rowOf(t, 0, 1),
		rowOf(t, 0, 1<<32),
		rowOf(t, 0, 1<<33),
		rowOf(t, 0, 1<<31),
		rowOf(t, 5, 5^0xffff<<48),
		rowOf(t, 0, math.MaxUint64),
		rowOf(t, 0, 1, 0xff<<36, math.MaxUint64, 4),
	}
}

// modelOf: the model that is where a row is.
func modelOf(x *xor.Row) *model {
	m := &model{last: x.Last(), n: x.Len()}
	m.ahead, m.bits = x.Window()
	return m
}

// next64: a value that differs from another one in nothing, in some neighbouring bits, or in any.
func next64(random *rand.Rand, v uint64) uint64 {
	switch random.Intn(5) {
	case 0:
		return v
	case 1:
		return v ^ 1<<random.Intn(64)
	case 2:
		return random.Uint64()
	}
	return v ^ random.Uint64()>>random.Intn(64)<<random.Intn(64)
}

// anyBits: so many.
func anyBits(random *rand.Rand, n int) string {
	b := make([]byte, n)
	for i := range b {
		b[i] = byte('0' + random.Intn(2))
	}
	return string(b)
}

// P5.1

func TestNewHasNothing(t *testing.T) {
	x := xor.New()
	if x == nil {
		t.Fatal("New: nil")
	}
	wantRow(t, x, 0, 0, 0, 0)
	if got := x.Cost(0); got != 64 {
		t.Errorf("Cost(0): %d", got)
	}
	if got := x.Cost(math.MaxUint64); got != 64 {
		t.Errorf("Cost of all ones: %d", got)
	}
	xor.New().Put(writer(t, ""), 9)
	wantRow(t, x, 0, 0, 0, 0)
	wantRow(t, xor.New(), 0, 0, 0, 0)
}

func TestPutOfTheChapter(t *testing.T) {
	x, w := xor.New(), writer(t, "")
	x.Put(w, 1)
	x.Put(w, 1)
	wantWritten(t, w, zeros(63)+"1 0")
	wantRow(t, x, 2, 1, 0, 0)
}

func TestPutTheFirst(t *testing.T) {
	for _, v := range []uint64{0, 1, 2, 1 << 63, 1 << 32, 0x123456789abcdef0, math.MaxUint64, math.Float64bits(-1.5)} {
		x := xor.New()
		wantPut(t, x, v, word(v))
		wantRow(t, x, 1, v, 0, 0)
	}
}

func TestPutTheLastAgain(t *testing.T) {
	for _, v := range []uint64{0, 1, 1 << 63, math.MaxUint64} {
		x := rowOf(t, v)
		wantPut(t, x, v, "0")
		wantPut(t, x, v, "0")
		wantRow(t, x, 3, v, 0, 0)
	}
	// The window stays meanwhile.
	x := rowOf(t, 0, 0xff<<36)
	wantPut(t, x, 0xff<<36, "0")
	wantRow(t, x, 3, 0xff<<36, 20, 8)
	wantPut(t, x, 0xfe<<36, "10 00000001")
	wantRow(t, x, 4, 0xfe<<36, 20, 8)
}

// told: what differs behind a first value, as it is put, and the window.
type told struct {
	differs     uint64
	bits        string
	ahead, some int
}

func toldOnes() []told {
	return []told{
		{1 << 63, "11 00000 000001 1", 0, 1},
		{1, "11 11111 100001" + zeros(32) + "1", 31, 33},
		{math.MaxUint64, "11 00000 000000" + ones(64), 0, 64},
		{1<<63 | 1, "11 00000 000000 1" + zeros(62) + "1", 0, 64},
		{1<<63 | 2, "11 00000 111111 1" + zeros(61) + "1", 0, 63},
		{1<<62 | 1, "11 00001 111111 1" + zeros(61) + "1", 1, 63},
		{1 << 62, "11 00001 000001 1", 1, 1},
		{0xb << 60, "11 00000 000100 1011", 0, 4},
		{0x0b << 56, "11 00100 000100 1011", 4, 4},
		{0xff << 36, "11 10100 001000 11111111", 20, 8},
		// 30, 31, 32 and 63 noughts ahead, up to the last bit and alone
		{1<<34 - 1, "11 11110 100010" + ones(34), 30, 34},
		{1 << 33, "11 11110 000001 1", 30, 1},
		{1<<33 - 1, "11 11111 100001" + ones(33), 31, 33},
		{1 << 32, "11 11111 000001 1", 31, 1},
		{1<<32 - 1, "11 11111 100001 0" + ones(32), 31, 33},
		{1 << 31, "11 11111 000010 01", 31, 2},
		{3 << 30, "11 11111 000011 011", 31, 3},
		{2, "11 11111 100000" + zeros(31) + "1", 31, 32},
		{3, "11 11111 100001" + zeros(31) + "11", 31, 33},
	}
}

func TestPutWhatDiffers(t *testing.T) {
	for _, first := range []uint64{0, 1, 0x123456789abcdef0, math.MaxUint64} {
		for _, c := range toldOnes() {
			x := rowOf(t, first)
			wantPut(t, x, first^c.differs, c.bits)
			wantRow(t, x, 2, first^c.differs, c.ahead, c.some)
			// Back again, within the window that was just told.
			differs := word(c.differs)[c.ahead : c.ahead+c.some]
			wantPut(t, x, first, "10"+differs)
			wantRow(t, x, 3, first, c.ahead, c.some)
		}
	}
}

func TestPutWithinTheWindow(t *testing.T) {
	for differs, bits := range map[uint64]string{
		1 << 43:    "10 10000000",
		1 << 36:    "10 00000001",
		0x81 << 36: "10 10000001",
		0x18 << 36: "10 00011000",
		0xff << 36: "10 11111111",
		0x7f << 36: "10 01111111",
		0xfe << 36: "10 11111110",
	} {
		x := rowOf(t, 0, 0xff<<36)
		wantPut(t, x, 0xff<<36^differs, bits)
		wantRow(t, x, 3, 0xff<<36^differs, 20, 8)
	}
	x := rowOf(t, 0, math.MaxUint64)
	wantPut(t, x, math.MaxUint64-1, "10"+word(1))
	wantPut(t, x, 0, "10"+ones(63)+"0")
	wantPut(t, x, 1<<63, "10 1"+zeros(63))
	wantRow(t, x, 5, 1<<63, 0, 64)
	x = rowOf(t, 0, 1<<31)
	wantPut(t, x, 0, "10 01")
	wantPut(t, x, 1<<32, "10 10")
	wantPut(t, x, 1<<31, "10 11")
	wantRow(t, x, 5, 1<<31, 31, 2)
}

func TestPutBeyondTheWindow(t *testing.T) {
	for _, c := range []told{
		{1 << 44, "11 10011 000001 1", 19, 1},
		{1 << 35, "11 11100 000001 1", 28, 1},
		{0x1ff << 36, "11 10011 001001 111111111", 19, 9},
		{0x1ff << 35, "11 10100 001001 111111111", 20, 9},
		{0x3ff << 35, "11 10011 001010 1111111111", 19, 10},
		{1<<44 | 1<<36, "11 10011 001001 100000001", 19, 9},
		{1<<43 | 1<<35, "11 10100 001001 100000001", 20, 9},
		{1 << 63, "11 00000 000001 1", 0, 1},
		{1, "11 11111 100001" + zeros(32) + "1", 31, 33},
	} {
		x := rowOf(t, 0, 0xff<<36)
		wantPut(t, x, 0xff<<36^c.differs, c.bits)
		wantRow(t, x, 3, 0xff<<36^c.differs, c.ahead, c.some)
	}
	// Where 31 noughts are told.
	x := rowOf(t, 0, 1<<31)
	wantPut(t, x, 1<<31|1<<30, "11 11111 000011 001")
	wantRow(t, x, 3, 1<<31|1<<30, 31, 3)
	x = rowOf(t, 0, 1<<31)
	wantPut(t, x, 1<<31|1<<33, "11 11110 000001 1")
	wantRow(t, x, 3, 1<<31|1<<33, 30, 1)
	// Where the window has all bits but one.
	x = rowOf(t, 0, 1<<63|2)
	wantPut(t, x, 1<<63|3, "11 11111 100001"+zeros(32)+"1")
	x = rowOf(t, 0, 1<<62|1)
	wantPut(t, x, 3<<62|1, "11 00000 000001 1")
}

func TestPutEachBitBesideEachWindow(t *testing.T) {
	// All windows of which a told one may be, and each bit that may differ: held against the window's numbers.
	for ahead := range 32 {
		for width := 1; ahead+width <= 64; width++ {
			of := uint64(1)<<(63-ahead) | 1<<(64-ahead-width)
			x := rowOf(t, 0, of)
			wantRow(t, x, 2, of, ahead, width)
			for i := range 64 {
				c := x.Copy()
				within := i >= ahead && i < ahead+width
				cost := 2 + width
				if !within {
					ahead := min(i, 31)
					cost = 2 + 11 + i - ahead + 1
				}
				if got := c.Cost(of ^ 1<<(63-i)); got != cost {
					t.Fatalf("window %d, %d, bit %d: Cost %d; want %d", ahead, width, i, got, cost)
				}
				w := writer(t, "")
				c.Put(w, of^1<<(63-i))
				if w.Len() != cost {
					t.Fatalf("window %d, %d, bit %d: %d bits; want %d", ahead, width, i, w.Len(), cost)
				}
			}
		}
	}
}

func TestPutBehindBits(t *testing.T) {
	const ahead = "1010010100111100"
	values := []uint64{1, 1, 1 << 63, 0xff << 36, 0xfe << 36, math.MaxUint64, 0}
	for n := range len(ahead) + 1 {
		x, m, w, all := xor.New(), &model{}, writer(t, ahead[:n]), ahead[:n]
		for _, v := range values {
			cost, was := x.Cost(v), w.Len()
			x.Put(w, v)
			all += m.put(v)
			wantWritten(t, w, all)
			if w.Len()-was != cost {
				t.Errorf("Put(%x): %d bits; Cost told %d", v, w.Len()-was, cost)
			}
		}
	}
}

func TestRowsByThemselvesOnOneWriter(t *testing.T) {
	x, y, w := xor.New(), xor.New(), writer(t, "1")
	x.Put(w, 0)
	y.Put(w, 1<<63)
	x.Put(w, 1<<63)
	w.Bit(false)
	y.Put(w, 1<<63)
	x.Put(w, 0)
	y.Put(w, 1<<63|1<<31)
	wantWritten(t, w, "1"+word(0)+word(1<<63)+"11 00000 000001 1"+"0"+"0"+"10 1"+"11 11111 000010 01")
	wantRow(t, x, 3, 0, 0, 1)
	wantRow(t, y, 3, 1<<63|1<<31, 31, 2)
}

func TestOneRowOnSomeWriters(t *testing.T) {
	// What is kept is the row's, not the writer's.
	x := xor.New()
	for i, bits := range []string{word(4), "11 11111 011111" + zeros(30) + "1", "0", "10" + zeros(30) + "1", "11 11111 100001" + zeros(32) + "1"} {
		w := writer(t, "")
		x.Put(w, []uint64{4, 0, 0, 4, 5}[i])
		wantWritten(t, w, bits)
	}
}

func TestCopyGoesOnByItself(t *testing.T) {
	for _, x := range rows(t) {
		n, last := x.Len(), x.Last()
		ahead, width := x.Window()
		c := x.Copy()
		if c == nil || c == x {
			t.Fatal("Copy: not another one")
		}
		wantRow(t, c, n, last, ahead, width)
		c.Put(writer(t, ""), last^5<<20)
		c.Put(writer(t, ""), last^1<<63)
		wantRow(t, x, n, last, ahead, width)
		d := x.Copy()
		x.Put(writer(t, ""), last^3)
		x.Put(writer(t, ""), last^7<<40)
		wantRow(t, d, n, last, ahead, width)
		if c.Len() != n+2 || c.Last() != last^1<<63 {
			t.Errorf("copy: %d values, last %x", c.Len(), c.Last())
		}
		e := d.Copy()
		e.Get(reader(t, word(last)))
		e.Get(reader(t, "0"))
		wantRow(t, d, n, last, ahead, width)
	}
}

func TestCopyIsTheSame(t *testing.T) {
	for _, x := range rows(t) {
		c, d := x.Copy(), x.Copy()
		for i, v := range []uint64{3, 3, 1 << 63, 0xff << 36, 0, 1 << 32} {
			m := modelOf(c)
			bits := m.put(v)
			wantPut(t, c, v, bits)
			wantGet(t, d, bits, v)
			wantRow(t, c, m.n, m.last, m.ahead, m.bits)
			wantRow(t, d, m.n, m.last, m.ahead, m.bits)
			if i == 2 {
				c = c.Copy()
			}
		}
	}
}

func TestPutAgainstAModel(t *testing.T) {
	random := rand.New(rand.NewSource(5))
	for range 2000 {
		x, m, v := xor.New(), &model{}, random.Uint64()
		w, all := writer(t, ""), ""
		for range 1 + random.Intn(12) {
			bits := m.put(v)
			if got := x.Cost(v); got != len(bits) {
				t.Fatalf("Cost(%x): %d; want %d", v, got, len(bits))
			}
			x.Put(w, v)
			all += bits
			wantRow(t, x, m.n, v, m.ahead, m.bits)
			v = next64(random, v)
		}
		wantWritten(t, w, all)
	}
}

// P5.2

func TestGetOfTheChapter(t *testing.T) {
	x, r := xor.New(), reader(t, word(1)+"0")
	for i, pos := range []int{64, 65} {
		if v, e := x.Get(r); v != 1 || e != api.OK {
			t.Errorf("Get: %x, %d", v, e)
		}
		wantRow(t, x, i+1, 1, 0, 0)
		wantPos(t, r, pos, 65-pos)
	}
}

func TestGetTheFirst(t *testing.T) {
	for _, v := range []uint64{0, 1, 1 << 63, 0x123456789abcdef0, math.MaxUint64} {
		x := xor.New()
		wantGet(t, x, word(v), v)
		wantRow(t, x, 1, v, 0, 0)
		wantGet(t, x, "0", v)
		wantRow(t, x, 2, v, 0, 0)
	}
}

func TestGetWhatDiffers(t *testing.T) {
	for _, first := range []uint64{0, 0x123456789abcdef0, math.MaxUint64} {
		for _, c := range toldOnes() {
			x := rowOf(t, first)
			wantGet(t, x, c.bits, first^c.differs)
			wantRow(t, x, 2, first^c.differs, c.ahead, c.some)
			wantGet(t, x, "10"+word(c.differs)[c.ahead:c.ahead+c.some], first)
			wantGet(t, x, "0", first)
			wantRow(t, x, 4, first, c.ahead, c.some)
		}
	}
}

func TestGetWithinTheWindow(t *testing.T) {
	// Of the window's bits some may be noughts, at either end too, if it isn't told anew.
	for bits, differs := range map[string]uint64{
		"10 10000000": 1 << 43,
		"10 00000001": 1 << 36,
		"10 00011000": 0x18 << 36,
		"10 11111111": 0xff << 36,
	} {
		x := rowOf(t, 0, 0xff<<36)
		wantGet(t, x, bits, 0xff<<36^differs)
		wantRow(t, x, 3, 0xff<<36^differs, 20, 8)
	}
}

func TestGetBeyondTheWindow(t *testing.T) {
	for _, c := range []told{
		{1 << 44, "11 10011 000001 1", 19, 1},
		{1 << 35, "11 11100 000001 1", 28, 1},
		{0x1ff << 36, "11 10011 001001 111111111", 19, 9},
		{0x1ff << 35, "11 10100 001001 111111111", 20, 9},
		{math.MaxUint64, "11 00000 000000" + ones(64), 0, 64},
	} {
		x := rowOf(t, 0, 0xff<<36)
		wantGet(t, x, c.bits, 0xff<<36^c.differs)
		wantRow(t, x, 3, 0xff<<36^c.differs, c.ahead, c.some)
	}
}

func TestGetShortOfTheFirst(t *testing.T) {
	for n := range 64 {
		wantRefused(t, xor.New(), zeros(n), api.ErrShort)
		wantRefused(t, xor.New(), ones(n), api.ErrShort)
	}
}

func TestGetShortOfRightBits(t *testing.T) {
	// Of whatever may come next, all that is less.
	for _, x := range rows(t) {
		for _, c := range toldOnes() {
			bits := modelOf(x).put(x.Last() ^ c.differs)
			for n := range len(bits) {
				wantRefused(t, x, bits[:n], api.ErrShort)
			}
		}
		wantRefused(t, x, "", api.ErrShort)
	}
}

func TestGetShortAsWrittenOut(t *testing.T) {
	for _, bits := range []string{
		"", "1", "11", "11 0", "11 1010", "11 10100", "11 10100 0", "11 10100 00100", "11 10100 001000",
		"11 10100 001000 1", "11 10100 001000 1111111", "11 00000 000000" + ones(63), "11 11111 100001" + zeros(32),
	} {
		wantRefused(t, rowOf(t, 0), bits, api.ErrShort)
	}
	for _, bits := range []string{"", "1", "10", "10 1", "10 1111111", "11", "11 11111 11111"} {
		wantRefused(t, rowOf(t, 0, 0xff<<36), bits, api.ErrShort)
	}
}

func TestGetShortIsNamedAheadOfForm(t *testing.T) {
	// These would be refused for what they tell, if they had their bits.
	x := rowOf(t, 0, 0xff<<36)
	for _, bits := range []string{
		"10 0000000",            // nothing so far
		"11 10100 001000",       // the old window itself
		"11 10100 001000 1000",  // the same, with some of its bits
		"11 10101 000010 1",     // within the old one
		"11 00000 001000 00000", // doesn't begin so
		"11 00000 000000" + zeros(63),
	} {
		wantRefused(t, x, bits, api.ErrShort)
	}
}

func TestGetOfAReaderThatFellShort(t *testing.T) {
	for _, x := range rows(t) {
		r := reader(t, zeros(100))
		r.Get(64)
		r.Get(40)
		was := x.Copy()
		if v, e := x.Get(r); v != 0 || e != api.ErrShort {
			t.Errorf("Get: %x, %d", v, e)
		}
		wantSame(t, x, was)
	}
}

func TestGetOfAWindowThatThereIsNot(t *testing.T) {
	for _, behind := range []string{"", "0", "1", ones(80)} {
		wantRefused(t, rowOf(t, 0), "10"+behind, api.ErrForm)
		wantRefused(t, rowOf(t, 5, 5), "10"+behind, api.ErrForm)
	}
}

func TestGetOfWindowsBeyondTheEnd(t *testing.T) {
	// At once: whether its bits are there or not, and none of them is read.
	for _, x := range rows(t)[1:] {
		for ahead := range 32 {
			for width := 1; width <= 64; width++ {
				bits := fmt.Sprintf("11%05b%06b", ahead, width%64)
				if ahead+width <= 64 {
					wantRefusedBare(t, x, bits, api.ErrShort)
					continue
				}
				for _, behind := range []string{"", "1", ones(width - 1), ones(width), ones(80), zeros(80)} {
					wantRefusedBare(t, x, bits+behind, api.ErrForm)
				}
				for n := range 13 {
					wantRefusedBare(t, x, bits[:n], api.ErrShort)
				}
			}
		}
		wantRefused(t, x, "11 00001 000000"+ones(64), api.ErrForm)
		wantRefused(t, x, "11 11111 100010"+ones(34), api.ErrForm)
		wantRefused(t, x, "11 11110 100011"+ones(35), api.ErrForm)
		wantRefused(t, x, "11 00010 111111", api.ErrForm)
	}
}

// wantRefusedBare: the same as wantRefused, with less said of the row behind it; and a window's bits aren't read.
func wantRefusedBare(t *testing.T, x *xor.Row, bits string, e api.Errno) {
	t.Helper()
	n, last := x.Len(), x.Last()
	ahead, width := x.Window()
	r := reader(t, bits)
	if v, got := x.Get(r); v != 0 || got != e {
		t.Fatalf("Get of %s: %x, %d; want 0, %d", bits, v, got, e)
	}
	wantRow(t, x, n, last, ahead, width)
	if r.Pos() > 13 {
		t.Fatalf("Get of %s: %d bits were read", bits, r.Pos())
	}
	if e == api.ErrForm {
		wantPos(t, r, 13, len(bits)-13)
	}
}

func TestGetWhatDoesNotBeginWhereItIsTold(t *testing.T) {
	for _, bits := range []string{
		"11 00000 000010 01",
		"11 01010 000011 001",
		"11 10100 001000 01111111",
		"11 11101 000010 01",
		"11 11110 000010 01",
		"11 11110 100010 0" + ones(33),
		"11 00000 000000 0" + ones(63),
	} {
		wantRefused(t, rowOf(t, 0), bits, api.ErrForm)
		wantRefused(t, rowOf(t, 0), bits+ones(70), api.ErrForm)
	}
	// Behind 31 noughts there may be more.
	wantGet(t, rowOf(t, 0), "11 11111 000010 01", 1<<31)
	wantGet(t, rowOf(t, 0), "11 11111 000011 001", 1<<30)
	wantGet(t, rowOf(t, 0), "11 11111 100001"+zeros(32)+"1", 1)
	wantGet(t, rowOf(t, 0), "11 11111 100001 0"+ones(32), 1<<32-1)
	wantGet(t, rowOf(t, 0), "11 11111 000001 1", 1<<32)
}

func TestGetWhatDoesNotEndWhereItIsTold(t *testing.T) {
	for _, bits := range []string{
		"11 00000 000010 10",
		"11 01010 000011 100",
		"11 10100 001000 11111110",
		"11 11110 000010 10",
		"11 11111 000010 10",
		"11 11111 000011 010",
		"11 11111 100001" + ones(32) + "0",
		"11 00000 000000" + ones(63) + "0",
		"11 00001 111111" + ones(62) + "0",
		"11 01010 000011 010", // neither
	} {
		wantRefused(t, rowOf(t, 0), bits, api.ErrForm)
		wantRefused(t, rowOf(t, 0), bits+ones(70), api.ErrForm)
	}
}

func TestGetWhatDiffersInNothing(t *testing.T) {
	for _, x := range rows(t)[1:] {
		for ahead := range 32 {
			for width := 1; ahead+width <= 64; width++ {
				bits := fmt.Sprintf("11%05b%06b", ahead, width%64) + zeros(width)
				if v, e := x.Get(reader(t, bits+ones(3))); v != 0 || e != api.ErrForm {
					t.Fatalf("Get of %s: %x, %d", bits, v, e)
				}
			}
		}
		_, width := x.Window()
		wantRefused(t, x, "10"+zeros(width), api.ErrForm)
		wantRefused(t, x, "10"+zeros(width)+ones(70), api.ErrForm)
	}
}

func TestGetOfAWindowWhereTheOldOneWouldDo(t *testing.T) {
	x := rowOf(t, 0, 0xff<<36)
	for _, bits := range []string{
		"11 10100 001000 11111111", // the old one again
		"11 10100 001000 10000001",
		"11 10100 000001 1", // its highest bit
		"11 11011 000001 1", // its lowest one
		"11 10100 000111 1111111",
		"11 10101 000111 1111111",
		"11 10110 000010 11",
	} {
		wantRefused(t, x, bits, api.ErrForm)
		wantRefused(t, x, bits+ones(70), api.ErrForm)
	}
	x = rowOf(t, 0, 1)
	for _, bits := range []string{"11 11111 000001 1", "11 11111 000010 01", "11 11111 100001" + zeros(32) + "1"} {
		wantRefused(t, x, bits, api.ErrForm)
	}
	x = rowOf(t, 0, math.MaxUint64)
	for _, c := range toldOnes() {
		wantRefused(t, x, c.bits, api.ErrForm)
	}
	// One that the old window doesn't hold, by one bit at either side.
	wantGet(t, rowOf(t, 0, 0xff<<36), "11 10011 000010 11", 0xff<<36^3<<43)
	wantGet(t, rowOf(t, 0, 0xff<<36), "11 11011 000010 11", 0xff<<36^3<<35)
	wantGet(t, rowOf(t, 0, 1<<31), "11 11111 000011 001", 1<<31|1<<30)
}

func TestGetOnBehindEachError(t *testing.T) {
	// A row that refused goes on from other bits as if nothing had been, many times over.
	x := xor.New()
	wantRefused(t, x, ones(63), api.ErrShort)
	wantGet(t, x, word(0), 0)
	for _, bits := range []string{"", "1", "11 101", "11 10100 0010", "11 10100 001000 111"} {
		wantRefused(t, x, bits, api.ErrShort)
	}
	for _, bits := range []string{"10", "11 11111 111111 1", "11 01010 000010 01", "11 01010 000010 10", "11 01010 000010 00"} {
		wantRefused(t, x, bits, api.ErrForm)
	}
	wantRow(t, x, 1, 0, 0, 0)
	wantGet(t, x, "11 10100 001000 10000001", 0x81<<36)
	for _, bits := range []string{"10 00000000", "11 10100 001000 11111111", "11 10101 000001 1", "11 00001 000000"} {
		wantRefused(t, x, bits, api.ErrForm)
		wantRefused(t, x, "10 1", api.ErrShort)
	}
	wantRow(t, x, 2, 0x81<<36, 20, 8)
	wantGet(t, x, "10 00000001", 0x80<<36)
	wantGet(t, x, "0", 0x80<<36)
	wantRefused(t, x, "11 00000 000010 01", api.ErrForm)
	wantPut(t, x, 0, "10 10000000")
	wantGet(t, x, "11 00000 000001 1", 1<<63)
	wantRow(t, x, 6, 1<<63, 0, 1)
}

func TestPutAndGetOnOneRow(t *testing.T) {
	x := xor.New()
	wantPut(t, x, 3, word(3))
	wantGet(t, x, "11 00000 000001 1", 1<<63|3)
	wantPut(t, x, 3, "10 1")
	wantGet(t, x, "10 1", 1<<63|3)
	wantPut(t, x, 1<<63|3, "0")
	wantRow(t, x, 5, 1<<63|3, 0, 1)
}

func wantAsTheModel(t *testing.T, x *xor.Row, bits string) api.Errno {
	t.Helper()
	m, r := modelOf(x), reader(t, bits)
	v, used, e := m.get(bits)
	if got, gotE := x.Get(r); got != v || gotE != e {
		t.Fatalf("Get of %s: %x, %d; want %x, %d", bits, got, gotE, v, e)
	}
	wantRow(t, x, m.n, m.last, m.ahead, m.bits)
	if e == api.OK {
		wantPos(t, r, used, len(bits)-used)
	}
	return e
}

func TestGetOfAllBitsOfNarrowWindows(t *testing.T) {
	// Of windows of up to six bits all that may stand in them, in rows with windows that hold them and that don't.
	for _, x := range rows(t)[1:] {
		for ahead := range 32 {
			for width := 1; width <= 6; width++ {
				for v := range 1 << width {
					wantAsTheModel(t, x.Copy(), fmt.Sprintf("11%05b%06b%0*b", ahead, width, width, v))
				}
			}
		}
	}
}

func TestGetAgainstAModel(t *testing.T) {
	random := rand.New(rand.NewSource(6))
	seen := map[api.Errno]int{}
	for range 20000 {
		// A right row, some of whose last value's bits are others, or aren't there.
		m, x, v := &model{}, xor.New(), random.Uint64()
		for range 1 + random.Intn(5) {
			m.put(v)
			x.Put(writer(t, ""), v)
			v = next64(random, v)
		}
		bits := []byte(m.put(v) + anyBits(random, random.Intn(4)))
		for range random.Intn(3) {
			bits[random.Intn(min(len(bits), 1+random.Intn(90)))] ^= 1
		}
		if random.Intn(4) == 0 {
			bits = bits[:random.Intn(len(bits))]
		}
		seen[wantAsTheModel(t, x, string(bits))]++
		seen[wantAsTheModel(t, x, "11"+anyBits(random, random.Intn(90)))]++
		seen[wantAsTheModel(t, x, anyBits(random, random.Intn(90)))]++
	}
	for _, e := range []api.Errno{api.OK, api.ErrShort, api.ErrForm} {
		if seen[e] < 1000 {
			t.Errorf("%d was told %d times", e, seen[e])
		}
	}
}

func TestGetWhatIsTakenPutPutsSo(t *testing.T) {
	// Whatever bits are read as a value, Put puts just these for it.
	random := rand.New(rand.NewSource(7))
	for range 20000 {
		x := rowOf(t, random.Uint64(), random.Uint64()>>random.Intn(64))
		y := x.Copy()
		bits := "1" + anyBits(random, 13) + anyBits(random, random.Intn(70))
		r := reader(t, bits)
		v, e := x.Get(r)
		if e != api.OK {
			continue
		}
		w := writer(t, "")
		y.Put(w, v)
		wantWritten(t, w, bits[:r.Pos()])
		wantSame(t, x, y)
	}
}

func TestGetWhatWasPut(t *testing.T) {
	random := rand.New(rand.NewSource(8))
	for range 2000 {
		ahead := random.Intn(20)
		x, y, w, v := xor.New(), xor.New(), writer(t, anyBits(random, ahead)), random.Uint64()
		var values []uint64
		for range 1 + random.Intn(20) {
			values = append(values, v)
			x.Put(w, v)
			v = next64(random, v)
		}
		w.Bit(true)
		r, _ := stream.NewReader(w.Bytes(), w.Len())
		r.Get(ahead)
		for i, v := range values {
			if got, e := y.Get(r); got != v || e != api.OK {
				t.Fatalf("value %d: %x, %d; want %x", i, got, e, v)
			}
		}
		wantPos(t, r, w.Len()-1, 1)
		wantSame(t, y, x)
		if v, e := y.Get(r); v != 0 || e != api.ErrShort {
			t.Fatalf("behind the last: %x, %d", v, e)
		}
	}
}

func TestGetOfFloats(t *testing.T) {
	x, y, w := xor.New(), xor.New(), writer(t, "")
	values := []float64{0, math.Copysign(0, -1), 1, 1.5, -1.5, math.Inf(1), math.Inf(-1), math.NaN(), math.MaxFloat64, math.SmallestNonzeroFloat64, 3, 3}
	for _, v := range values {
		x.Put(w, math.Float64bits(v))
	}
	r, _ := stream.NewReader(w.Bytes(), w.Len())
	for _, v := range values {
		if got, e := y.Get(r); got != math.Float64bits(v) || e != api.OK {
			t.Errorf("%v: %x, %d", v, got, e)
		}
	}
	wantPos(t, r, w.Len(), 0)
}
