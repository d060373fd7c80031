package times_test

import (
	"bytes"
	"fmt"
	"math"
	"math/big"
	"math/rand"
	"strings"
	"testing"

	"tidepole/api"
	"tidepole/stream"
	"tidepole/times"
)

// group: a line of layer 4's table, in numbers that have no bound.
type group struct {
	lead       string
	bits       int
	fromS, toS int64
	toU        uint64
}

func groups() []group {
	return []group{
		{"0", 0, 0, 0, 0},
		{"10", 3, -3, 4, 7},
		{"110", 6, -31, 32, 63},
		{"1110", 9, -255, 256, 511},
		{"11110", 12, -2047, 2048, 1<<12 - 1},
		{"111110", 18, -131071, 131072, 1<<18 - 1},
		{"1111110", 25, -16777215, 1 << 24, 1<<25 - 1},
		{"11111110", 56, -1<<55 + 1, 1 << 55, 1<<56 - 1},
		{"11111111", 64, math.MinInt64, math.MaxInt64, math.MaxUint64},
	}
}

func ofS(v int64) int {
	for i, g := range groups() {
		if g.fromS <= v && v <= g.toS {
			return i
		}
	}
	return -1
}

func ofU(v uint64) int {
	for i, g := range groups() {
		if v <= g.toU {
			return i
		}
	}
	return -1
}

// power: 2^n.
func power(n int) *big.Int { return new(big.Int).Lsh(big.NewInt(1), uint(n)) }

// low: the lowest n bits, from the highest one on; those of a negative number are from 2^64 down.
func low(v *big.Int, n int) string {
	if n == 0 {
		return ""
	}
	v = new(big.Int).Mod(v, power(n))
	return fmt.Sprintf("%0*s", n, v.Text(2))
}

func bitsS(v int64) string {
	g := groups()[ofS(v)]
	return g.lead + low(big.NewInt(v), g.bits)
}

func bitsU(v uint64) string {
	g := groups()[ofU(v)]
	return g.lead + low(new(big.Int).SetUint64(v), g.bits)
}

// hasSign: are the numbers those with a sign? By the name of their type.
func hasSign[T times.Number]() bool {
	var zero T
	return fmt.Sprintf("%T", zero) == "int64"
}

// whole: a number of any size.
func whole[T times.Number](v T) *big.Int {
	if hasSign[T]() {
		return big.NewInt(int64(v))
	}
	return new(big.Int).SetUint64(uint64(v))
}

// wrapped: modulo 2^64, as a number with a sign.
func wrapped(v *big.Int) int64 {
	v = new(big.Int).Mod(v, power(64))
	if v.Cmp(power(63)) >= 0 {
		v.Sub(v, power(64))
	}
	return v.Int64()
}

// numberOf: modulo 2^64, as a number of the row's kind.
func numberOf[T times.Number](v *big.Int) T {
	if hasSign[T]() {
		return T(wrapped(v))
	}
	return T(new(big.Int).Mod(v, power(64)).Uint64())
}

// model: a row by the chapter's words, which holds on to all of its numbers and tells all of them anew.
type model[T times.Number] struct {
	l []T
}

func (m *model[T]) last() T {
	if len(m.l) == 0 {
		return 0
	}
	return m.l[len(m.l)-1]
}

func (m *model[T]) step() int64 {
	n := len(m.l)
	if n < 2 {
		return 0
	}
	return wrapped(new(big.Int).Sub(whole(m.l[n-1]), whole(m.l[n-2])))
}

// bits: what v has, if it comes next.
func (m *model[T]) bits(v T) string {
	next := &model[T]{append(append([]T{}, m.l...), v)}
	switch {
	case len(m.l) == 0 && hasSign[T]():
		return bitsS(int64(v))
	case len(m.l) == 0:
		return bitsU(uint64(v))
	case len(m.l) == 1:
		return bitsS(next.step())
	}
	return bitsS(wrapped(new(big.Int).Sub(big.NewInt(next.step()), big.NewInt(m.step()))))
}

// put: one more, and its bits.
func (m *model[T]) put(v T) string {
	bits := m.bits(v)
	m.l = append(m.l, v)
	return bits
}

// get: what bits tell, and how many of them do. Nothing is changed beside an error.
func (m *model[T]) get(bits string) (T, int, api.Errno) {
	at := -1
	for i, g := range groups() {
		if strings.HasPrefix(bits, g.lead) {
			at = i
		}
	}
	if at < 0 || len(bits) < len(groups()[at].lead)+groups()[at].bits {
		return 0, 0, api.ErrShort
	}
	g := groups()[at]
	used := len(g.lead) + g.bits
	told, _ := new(big.Int).SetString("0"+bits[len(g.lead):used], 2)
	v, right := m.told(told, at, g.bits)
	if !right {
		return 0, 0, api.ErrForm
	}
	m.l = append(m.l, v)
	return v, used, api.OK
}

// told: the number that a group's bits make, and whether it is put in that group.
func (m *model[T]) told(v *big.Int, at, bits int) (T, bool) {
	if len(m.l) == 0 && !hasSign[T]() {
		return T(v.Uint64()), ofU(v.Uint64()) == at
	}
	// 2^63 itself is no number with a sign; what is put so is the least one.
	if half := power(bits); bits > 0 && v.Cmp(half.Rsh(half, 1)) > 0 || bits == 64 && v.Cmp(power(63)) == 0 {
		v.Sub(v, power(bits))
	}
	right := ofS(v.Int64()) == at
	if len(m.l) == 0 {
		return T(v.Int64()), right
	}
	v.Add(v, big.NewInt(m.step()))
	return numberOf[T](v.Add(v, whole(m.last()))), right
}

// join: bits without the blanks that are for the eye.
func join(bits string) string { return strings.ReplaceAll(bits, " ", "") }

// zeros, ones: so many bits.
func zeros(n int) string { return strings.Repeat("0", n) }

func ones(n int) string { return strings.Repeat("1", n) }

// pack: bits in bytes.
func pack(bits string) ([]byte, int) {
	bits = join(bits)
	b := make([]byte, (len(bits)+7)/8)
	for i, c := range bits {
		if c == '1' {
			b[i/8] |= 1 << (7 - i%8)
		}
	}
	return b, len(bits)
}

func writer(t *testing.T, bits string) *stream.Writer {
	t.Helper()
	b, n := pack(bits)
	w, e := stream.NewWriter(b, n)
	if e != api.OK {
		t.Fatalf("NewWriter(%x, %d): %d", b, n, e)
	}
	return w
}

func reader(t *testing.T, bits string) *stream.Reader {
	t.Helper()
	b, n := pack(bits)
	r, e := stream.NewReader(b, n)
	if e != api.OK {
		t.Fatalf("NewReader(%x, %d): %d", b, n, e)
	}
	return r
}

func wantWritten(t *testing.T, w *stream.Writer, bits string) {
	t.Helper()
	b, n := pack(bits)
	if w.Len() != n || !bytes.Equal(w.Bytes(), b) {
		t.Errorf("%d bits, %x; want %d, %x", w.Len(), w.Bytes(), n, b)
	}
}

func wantPos(t *testing.T, r *stream.Reader, pos, left int) {
	t.Helper()
	if r.Pos() != pos || r.Left() != left || r.Short() {
		t.Errorf("reader: pos %d, left %d, short %v; want %d, %d, false", r.Pos(), r.Left(), r.Short(), pos, left)
	}
}

// wantRow: what a row tells of itself.
func wantRow[T times.Number](t *testing.T, x *times.Row[T], n int, last T, step int64) {
	t.Helper()
	if x.Len() != n || x.Last() != last || x.Step() != step {
		t.Errorf("row: %d numbers, last %d, step %d; want %d, %d, %d", x.Len(), x.Last(), x.Step(), n, last, step)
	}
}

// wantModel: the same of a row that ought to be as a model.
func wantModel[T times.Number](t *testing.T, x *times.Row[T], m *model[T]) {
	t.Helper()
	wantRow(t, x, len(m.l), m.last(), m.step())
}

// wantPut: one more is put as these bits, at the cost that is told ahead of it, which changes nothing.
func wantPut[T times.Number](t *testing.T, x *times.Row[T], v T, bits string) {
	t.Helper()
	n, last, step := x.Len(), x.Last(), x.Step()
	if got := x.Cost(v); got != len(join(bits)) {
		t.Errorf("Cost(%d): %d; want %d", v, got, len(join(bits)))
	}
	wantRow(t, x, n, last, step)
	w := writer(t, "")
	x.Put(w, v)
	wantWritten(t, w, bits)
	if x.Len() != n+1 || x.Last() != v {
		t.Errorf("behind Put(%d): %d numbers, last %d; want %d", v, x.Len(), x.Last(), n+1)
	}
}

// wantGet: bits are read as a number, and those behind them aren't read.
func wantGet[T times.Number](t *testing.T, x *times.Row[T], bits string, v T) {
	t.Helper()
	n := x.Len()
	for _, behind := range []string{"", "0", "1011", ones(80)} {
		c, r := x.Copy(), reader(t, bits+behind)
		if got, e := c.Get(r); got != v || e != api.OK {
			t.Errorf("Get of %s: %d, %d; want %d", bits, got, e, v)
		}
		wantPos(t, r, len(join(bits)), len(behind))
	}
	x.Get(reader(t, bits))
	if x.Len() != n+1 || x.Last() != v {
		t.Errorf("behind Get of %d: %d numbers, last %d; want %d", v, x.Len(), x.Last(), n+1)
	}
}

// wantSame: two rows tell the same of themselves, put the same and read the same, two numbers on. Neither is changed.
func wantSame[T times.Number](t *testing.T, x, y *times.Row[T]) {
	t.Helper()
	wantRow(t, x, y.Len(), y.Last(), y.Step())
	for _, v := range []T{0, y.Last(), y.Last() + 60, y.Last() + T(y.Step()), y.Last() - 1<<40, y.Last() + numberOf[T](power(63))} {
		if x.Cost(v) != y.Cost(v) {
			t.Errorf("Cost(%d): %d; want %d", v, x.Cost(v), y.Cost(v))
		}
		xs, ys, w := x.Copy(), y.Copy(), writer(t, "")
		ys.Put(w, v)
		ys.Put(w, v+7)
		r, _ := stream.NewReader(w.Bytes(), w.Len())
		for _, want := range []T{v, v + 7} {
			if got, e := xs.Get(r); got != want || e != api.OK {
				t.Errorf("Get: %d, %d; want %d", got, e, want)
			}
		}
		wantRow(t, xs, ys.Len(), ys.Last(), ys.Step())
		xs, put := x.Copy(), writer(t, "")
		xs.Put(put, v)
		xs.Put(put, v+7)
		if put.Len() != w.Len() || !bytes.Equal(put.Bytes(), w.Bytes()) {
			t.Errorf("Put(%d): %d bits, %x; want %d, %x", v, put.Len(), put.Bytes(), w.Len(), w.Bytes())
		}
	}
	wantRow(t, x, y.Len(), y.Last(), y.Step())
}

// wantRefused: bits that Get refuses so, with nothing beside the error, and the row stays as it was.
func wantRefused[T times.Number](t *testing.T, x *times.Row[T], bits string, e api.Errno) {
	t.Helper()
	was := x.Copy()
	if v, got := x.Get(reader(t, bits)); v != 0 || got != e {
		t.Errorf("Get of %s: %d, %d; want 0, %d", bits, v, got, e)
	}
	wantRow(t, x, was.Len(), was.Last(), was.Step())
	wantSame(t, x, was)
}

// wantAll: numbers one by one, as the model has them, with the bits of each and the row behind it; and the same read.
func wantAll[T times.Number](t *testing.T, l ...T) {
	t.Helper()
	m, x, y := &model[T]{}, times.New[T](), times.New[T]()
	for _, v := range l {
		bits := m.put(v)
		wantPut(t, x, v, bits)
		wantModel(t, x, m)
		wantGet(t, y, bits, v)
		wantModel(t, y, m)
	}
}

// wantBits: numbers one by one, each with so many bits.
func wantBits[T times.Number](t *testing.T, l []T, bits ...int) {
	t.Helper()
	x, w := times.New[T](), writer(t, "")
	for i, v := range l {
		was := w.Len()
		if got := x.Cost(v); got != bits[i] {
			t.Errorf("Cost of number %d, %d: %d; want %d", i, v, got, bits[i])
		}
		x.Put(w, v)
		if got := w.Len() - was; got != bits[i] {
			t.Errorf("Put of number %d, %d: %d bits; want %d", i, v, got, bits[i])
		}
	}
}

// rowOf: with these numbers.
func rowOf[T times.Number](t *testing.T, numbers ...T) *times.Row[T] {
	t.Helper()
	x, w := times.New[T](), writer(t, "")
	for _, v := range numbers {
		x.Put(w, v)
	}
	return x
}

// least, greatest: the numbers that there are.
func least[T times.Number]() T {
	if hasSign[T]() {
		return numberOf[T](power(63))
	}
	return 0
}

func greatest[T times.Number]() T { return least[T]() - 1 }

// lists: numbers of rows without any, with one, with two, and with more, whose steps are 0, even, of both signs, and go round.
func lists[T times.Number]() [][]T {
	return [][]T{
		{},
		{0},
		{1000},
		{least[T]()},
		{greatest[T]()},
		{1000, 1060},
		{1060, 1000},
		{7, 7},
		{least[T](), greatest[T]()},
		{greatest[T](), least[T]()},
		{1000, 1060, 1120, 1180},
		{7, 7, 7},
		{500, 300, 301, 1 << 40},
		{0, 1 << 62, 0, 1<<62 - 1},
		{least[T](), greatest[T](), least[T](), greatest[T]()},
		{0, numberOf[T](power(63)), 0},
	}
}

func rows[T times.Number](t *testing.T) []*times.Row[T] {
	t.Helper()
	var l []*times.Row[T]
	for _, numbers := range lists[T]() {
		l = append(l, rowOf(t, numbers...))
	}
	return l
}

// edgesS: of each group its first and its last number, and those next to them; 0, 1, -1. The last group's are the least and the greatest there are, and next to these is the other one too, since numbers go round.
func edgesS() []int64 {
	edges := []int64{0, 1, -1}
	for _, g := range groups() {
		for _, v := range []int64{g.fromS, g.toS} {
			edges = append(edges, v-1, v, v+1)
		}
	}
	return edges
}

func edgesU() []uint64 {
	edges := []uint64{0, 1, 1<<63 - 1, 1 << 63, 1<<63 + 1}
	for _, g := range groups() {
		edges = append(edges, g.toU-1, g.toU, g.toU+1)
	}
	return edges
}

// edges: those of both kinds, as numbers of 64 bits.
func edges[T times.Number]() []T {
	var l []T
	for _, v := range edgesS() {
		l = append(l, T(v))
	}
	for _, v := range edgesU() {
		l = append(l, T(v))
	}
	return l
}

// any64: of any length, and of both signs.
func any64(random *rand.Rand) uint64 {
	v := random.Uint64() >> random.Intn(64)
	if random.Intn(2) == 0 {
		return -v
	}
	return v
}

// after: a number that goes on evenly, nearly so, or in any way.
func after[T times.Number](random *rand.Rand, x *times.Row[T]) T {
	switch even := x.Last() + T(x.Step()); random.Intn(4) {
	case 0:
		return even
	case 1:
		return even + T(any64(random)%100)
	case 2:
		return T(edgesS()[random.Intn(len(edgesS()))]) + even
	}
	return T(any64(random))
}

// anyBits: so many.
func anyBits(random *rand.Rand, n int) string {
	b := make([]byte, n)
	for i := range b {
		b[i] = byte('0' + random.Intn(2))
	}
	return string(b)
}

// P13.1

func TestNewHasNothing(t *testing.T) {
	newHasNothing[int64](t)
	newHasNothing[uint64](t)
}

func newHasNothing[T times.Number](t *testing.T) {
	x := times.New[T]()
	if x == nil {
		t.Fatal("New: nil")
	}
	wantRow(t, x, 0, 0, 0)
	if got := x.Cost(0); got != 1 {
		t.Errorf("Cost(0): %d", got)
	}
	times.New[T]().Put(writer(t, ""), 9)
	wantRow(t, x, 0, 0, 0)
	wantRow(t, times.New[T](), 0, 0, 0)
}

func TestPutOfTheChapter(t *testing.T) {
	putOfTheChapter[int64](t)
	putOfTheChapter[uint64](t)
}

func putOfTheChapter[T times.Number](t *testing.T) {
	l := []T{1000, 1060, 1120, 1180}
	wantBits(t, l, 17, 13, 1, 1)
	x, w := times.New[T](), writer(t, "")
	for i, v := range l {
		x.Put(w, v)
		wantRow(t, x, i+1, v, []int64{0, 60, 60, 60}[i])
	}
	wantWritten(t, w, "11110 001111101000  1110 000111100  0 0")
}

func TestPutAsWrittenOut(t *testing.T) {
	putAsWrittenOut[int64](t)
	putAsWrittenOut[uint64](t)
}

func putAsWrittenOut[T times.Number](t *testing.T) {
	x := times.New[T]()
	for _, c := range []struct {
		v    T
		bits string
		step int64
	}{
		{3, "10 011", 0},
		{3, "0", 0},
		{4, "10 001", 1},
		{5, "0", 1},
		{6, "0", 1},
		{6, "10 111", 0},
		{5, "10 111", -1},
		{4, "0", -1},
		{3, "0", -1},
		{7, "110 000101", 4},
		{8, "10 101", 1},
		{5, "110 111100", -3},
		{300, "11110 000100101010", 295},
		{300, "11110 111011011001", 0},
		{1<<62 + 300, "11111111 01" + zeros(62), 1 << 62},
		{300, "11111111 1" + zeros(63), -1 << 62},
		{300, "11111111 01" + zeros(62), 0},
	} {
		wantPut(t, x, c.v, c.bits)
		if x.Step() != c.step {
			t.Errorf("behind %d: step %d; want %d", c.v, x.Step(), c.step)
		}
	}
}

func TestPutTheFirstWithASign(t *testing.T) {
	for _, v := range edgesS() {
		x := times.New[int64]()
		wantPut(t, x, v, bitsS(v))
		wantRow(t, x, 1, v, 0)
	}
	wantBits(t, []int64{-3}, 5)
	wantBits(t, []int64{4}, 5)
	wantBits(t, []int64{-4}, 9)
	wantBits(t, []int64{5}, 9)
	wantBits(t, []int64{-1}, 5)
	wantBits(t, []int64{math.MinInt64}, 72)
	wantBits(t, []int64{math.MaxInt64}, 72)
	wantPut(t, times.New[int64](), 5, "110 000101")
	wantPut(t, times.New[int64](), -3, "10 101")
	wantPut(t, times.New[int64](), math.MinInt64, "11111111 1"+zeros(63))
}

func TestPutTheFirstWithoutASign(t *testing.T) {
	for _, v := range edgesU() {
		x := times.New[uint64]()
		wantPut(t, x, v, bitsU(v))
		wantRow(t, x, 1, v, 0)
	}
	wantBits(t, []uint64{7}, 5)
	wantBits(t, []uint64{8}, 9)
	wantBits(t, []uint64{1<<56 - 1}, 64)
	wantBits(t, []uint64{1 << 56}, 72)
	wantBits(t, []uint64{1 << 63}, 72)
	wantBits(t, []uint64{math.MaxUint64}, 72)
	wantPut(t, times.New[uint64](), 5, "10 101")
	wantPut(t, times.New[uint64](), 63, "110 111111")
	wantPut(t, times.New[uint64](), math.MaxUint64, ones(72))
}

func TestPutStepsAtTheEdges(t *testing.T) {
	putStepsAtTheEdges[int64](t)
	putStepsAtTheEdges[uint64](t)
}

// Steps have a sign, whatever their row's numbers have.
func putStepsAtTheEdges[T times.Number](t *testing.T) {
	for _, first := range []T{0, 1000, 1 << 62, least[T](), greatest[T]()} {
		for _, step := range edgesS() {
			x := rowOf(t, first)
			wantPut(t, x, first+T(step), bitsS(step))
			wantRow(t, x, 2, first+T(step), step)
			// Even steps, one more than these, and none.
			even := first + T(step) + T(step)
			wantPut(t, x.Copy(), even, "0")
			wantPut(t, x.Copy(), even+1, "10 001")
			wantPut(t, x.Copy(), even-1, "10 111")
			wantPut(t, x, even, "0")
			wantRow(t, x, 3, even, step)
			wantAll(t, first, first+T(step), first, first, even)
		}
	}
}

func TestPutChangesOfStepsAtTheEdges(t *testing.T) {
	putChangesOfSteps[int64](t)
	putChangesOfSteps[uint64](t)
}

func putChangesOfSteps[T times.Number](t *testing.T) {
	for _, first := range []T{7, least[T](), greatest[T]()} {
		for _, step := range []int64{0, 1, -1, 60, math.MaxInt64, math.MinInt64} {
			for _, change := range edgesS() {
				x := rowOf(t, first, first+T(step))
				v := first + T(step) + T(step+change)
				wantPut(t, x, v, bitsS(change))
				wantRow(t, x, 3, v, step+change)
				wantPut(t, x, v+T(step+change), "0")
			}
		}
	}
}

func TestPutEvenNumbers(t *testing.T) {
	putEvenNumbers[int64](t)
	putEvenNumbers[uint64](t)
}

func putEvenNumbers[T times.Number](t *testing.T) {
	for _, first := range edges[T]() {
		for _, step := range []int64{0, 1, -1, 60, -60, 1 << 55, 1<<55 + 1, math.MaxInt64, math.MinInt64} {
			x, v := rowOf(t, first, first+T(step)), first+T(step)
			for n := range 10 {
				v += T(step)
				wantPut(t, x, v, "0")
				wantRow(t, x, n+3, v, step)
			}
		}
	}
}

func TestPutNumbersThatStandStill(t *testing.T) {
	putStandingStill[int64](t)
	putStandingStill[uint64](t)
}

func putStandingStill[T times.Number](t *testing.T) {
	for _, v := range edges[T]() {
		x := rowOf(t, v)
		for n := range 5 {
			wantPut(t, x, v, "0")
			wantRow(t, x, n+2, v, 0)
		}
	}
	// One that comes to stand has one step back, and then none.
	x := rowOf[T](t, 10, 14)
	wantPut(t, x, 14, "110 111100")
	wantPut(t, x, 14, "0")
	wantRow(t, x, 4, 14, 0)
}

func TestPutTheLeastAndTheGreatest(t *testing.T) {
	// Between them is a step of 1 or -1, since it goes round.
	x := times.New[int64]()
	wantPut(t, x, math.MinInt64, "11111111 1"+zeros(63))
	wantPut(t, x, math.MaxInt64, "10 111")
	wantRow(t, x, 2, math.MaxInt64, -1)
	wantPut(t, x, math.MinInt64, "10 010")
	wantRow(t, x, 3, math.MinInt64, 1)
	wantPut(t, x, math.MaxInt64, "10 110")
	wantRow(t, x, 4, math.MaxInt64, -1)
	wantPut(t, x, math.MaxInt64-1, "0")
	u := times.New[uint64]()
	wantPut(t, u, math.MaxUint64, ones(72))
	wantPut(t, u, 0, "10 001")
	wantRow(t, u, 2, 0, 1)
	wantPut(t, u, 1, "0")
	wantPut(t, u, 0, "10 110")
	wantPut(t, u, math.MaxUint64, "0")
	wantRow(t, u, 5, math.MaxUint64, -1)
	leastAndGreatest[int64](t)
	leastAndGreatest[uint64](t)
}

func leastAndGreatest[T times.Number](t *testing.T) {
	a, b := least[T](), greatest[T]()
	for _, l := range [][]T{{a, b}, {b, a}, {a, b, a}, {b, a, b}, {a, a, b, b, a, a}, {0, a, b, 0}, {0, b, a, 0}, {a, 0, b, 0, a}, {a, b / 2, b, b / 2, a}} {
		wantAll(t, l...)
	}
}

func TestPutChangesThatGoRound(t *testing.T) {
	// A step of the greatest, then one of the least: what the one is less the other is 1.
	x := rowOf[int64](t, 0, math.MaxInt64)
	wantRow(t, x, 2, math.MaxInt64, math.MaxInt64)
	wantPut(t, x, -1, "10 001")
	wantRow(t, x, 3, -1, math.MinInt64)
	wantPut(t, x, math.MaxInt64, "0")
	wantPut(t, x, math.MaxInt64-1, "11111111 0"+ones(63))
	wantRow(t, x, 5, math.MaxInt64-1, -1)
	wantPut(t, x, math.MinInt64, "10 011")
	wantRow(t, x, 6, math.MinInt64, 2)
	u := rowOf[uint64](t, 1<<63, 0)
	wantRow(t, u, 2, 0, math.MinInt64)
	wantPut(t, u, 1<<63-1, "10 111")
	wantRow(t, u, 3, 1<<63-1, math.MaxInt64)
	wantPut(t, u, 1<<63-1, "11111111 1"+zeros(62)+"1")
	wantRow(t, u, 4, 1<<63-1, 0)
}

func TestPutGreatNumbersWithoutASign(t *testing.T) {
	u := times.New[uint64]()
	wantPut(t, u, 1<<63, "11111111 1"+zeros(63))
	wantPut(t, u, 1<<63+2, "10 010")
	wantPut(t, u, 1<<63-1, "110 111011")
	wantRow(t, u, 3, 1<<63-1, -3)
	wantPut(t, u, 1<<63-1, "10 011")
	wantPut(t, u, 3, "11111111 1"+zeros(60)+"100")
	wantRow(t, u, 5, 3, math.MinInt64+4)
	wantPut(t, u, 3, "11111111 0"+ones(61)+"00")
	wantPut(t, u, math.MaxUint64, "110 111100")
	wantRow(t, u, 7, math.MaxUint64, -4)
	wantPut(t, u, math.MaxUint64-4, "0")
	wantPut(t, u, 8, "110 010001")
	wantRow(t, u, 9, 8, 13)
	for _, great := range []uint64{1 << 63, 1<<63 + 1, math.MaxUint64 - 1, math.MaxUint64} {
		for _, small := range []uint64{0, 1, 7, 8, 1000, 1<<63 - 1} {
			wantAll(t, small, great, small)
			wantAll(t, great, small, great, great, small, small)
		}
	}
}

func TestPutAllPairsOfEdges(t *testing.T) {
	putAllPairs[int64](t)
	putAllPairs[uint64](t)
}

func putAllPairs[T times.Number](t *testing.T) {
	for _, a := range edges[T]() {
		for _, b := range edges[T]() {
			m, x := &model[T]{}, times.New[T]()
			for _, v := range []T{a, b, a} {
				wantPut(t, x, v, m.put(v))
				wantModel(t, x, m)
			}
		}
	}
}

func TestCostChangesNothing(t *testing.T) {
	costChangesNothing[int64](t)
	costChangesNothing[uint64](t)
}

func costChangesNothing[T times.Number](t *testing.T) {
	for i, l := range lists[T]() {
		x, m := rows[T](t)[i], &model[T]{l}
		was := x.Copy()
		for _, v := range edges[T]() {
			if got, want := x.Cost(v), len(m.bits(v)); got != want {
				t.Errorf("Cost(%d) behind %d: %d; want %d", v, l, got, want)
			}
			wantModel(t, x, m)
		}
		wantSame(t, x, was)
		for _, v := range edges[T]() {
			wantPut(t, x.Copy(), v, m.bits(v))
		}
	}
}

func TestPutBehindBits(t *testing.T) {
	putBehindBits[int64](t)
	putBehindBits[uint64](t)
}

func putBehindBits[T times.Number](t *testing.T) {
	const ahead = "10100101 00111100 11"
	for n := range len(ahead) + 1 {
		for _, l := range lists[T]() {
			m, x, w, all := &model[T]{}, times.New[T](), writer(t, ahead[:n]), ahead[:n]
			for _, v := range l {
				x.Put(w, v)
				all += m.put(v)
				wantWritten(t, w, all)
			}
		}
	}
}

func TestPutOfTwoRowsInTurn(t *testing.T) {
	x, y, w := times.New[int64](), times.New[uint64](), writer(t, "1")
	x.Put(w, 5)
	y.Put(w, 5)
	x.Put(w, 4)
	y.Put(w, 8)
	w.Bit(true)
	x.Put(w, 3)
	x.Put(w, 2)
	y.Put(w, 10)
	y.Put(w, 12)
	wantWritten(t, w, "1  110 000101  10 101  10 111  10 011  1  0  0  10 111  0")
	wantRow(t, x, 4, 2, -1)
	wantRow(t, y, 4, 12, 2)
	r, _ := stream.NewReader(w.Bytes(), w.Len())
	r.Bit()
	x, y = times.New[int64](), times.New[uint64]()
	for i, ofY := range []bool{false, true, false, true, false, false, true, true} {
		want := []int64{5, 5, 4, 8, 3, 2, 10, 12}[i]
		if i == 4 && !r.Bit() {
			t.Error("the bit between is lost")
		}
		got, e := int64(0), api.OK
		if ofY {
			var u uint64
			u, e = y.Get(r)
			got = int64(u)
		} else {
			got, e = x.Get(r)
		}
		if got != want || e != api.OK {
			t.Errorf("Get %d: %d, %d; want %d", i, got, e, want)
		}
	}
	wantPos(t, r, w.Len(), 0)
}

func TestOneRowOnSomeWriters(t *testing.T) {
	// What is kept is the row's, not the writer's.
	x := times.New[int64]()
	for i, bits := range []string{"110 000101", "10 001", "0", "10 111", "0"} {
		w := writer(t, "")
		x.Put(w, []int64{5, 6, 7, 7, 7}[i])
		wantWritten(t, w, bits)
	}
}

func TestCopyGoesOnByItself(t *testing.T) {
	copyGoesOn[int64](t)
	copyGoesOn[uint64](t)
}

func copyGoesOn[T times.Number](t *testing.T) {
	for i, x := range rows[T](t) {
		m := &model[T]{lists[T]()[i]}
		c := x.Copy()
		if c == nil || c == x {
			t.Fatal("Copy: not another one")
		}
		wantModel(t, c, m)
		c.Put(writer(t, ""), 5)
		c.Put(writer(t, ""), 1<<60)
		wantModel(t, x, m)
		wantRow(t, c, len(m.l)+2, 1<<60, 1<<60-5)
		d := x.Copy()
		x.Put(writer(t, ""), 77)
		x.Put(writer(t, ""), 78)
		wantModel(t, d, m)
		wantRow(t, c, len(m.l)+2, 1<<60, 1<<60-5)
		e := d.Copy()
		e.Get(reader(t, "10 001"))
		e.Get(reader(t, "0"))
		wantModel(t, d, m)
		d.Get(reader(t, "10 010"))
		wantRow(t, x, len(m.l)+2, 78, 1)
		if e.Len() != len(m.l)+2 || d.Len() != len(m.l)+1 {
			t.Errorf("copies: %d numbers, %d", e.Len(), d.Len())
		}
	}
}

func TestCopyIsTheSame(t *testing.T) {
	copyIsTheSame[int64](t)
	copyIsTheSame[uint64](t)
}

func copyIsTheSame[T times.Number](t *testing.T) {
	for i, x := range rows[T](t) {
		m := &model[T]{append([]T{}, lists[T]()[i]...)}
		c, d := x.Copy(), x.Copy()
		wantSame(t, c, x)
		for i, v := range []T{3, 3, greatest[T](), 1 << 40, 0, 60, 120, least[T]()} {
			bits := m.put(v)
			wantPut(t, x, v, bits)
			wantPut(t, c, v, bits)
			wantGet(t, d, bits, v)
			wantModel(t, c, m)
			wantModel(t, d, m)
			if i%3 == 2 {
				c, d = d.Copy(), c.Copy()
			}
		}
		wantModel(t, x, m)
	}
}

func TestPutAgainstAModel(t *testing.T) {
	putAgainstAModel[int64](t)
	putAgainstAModel[uint64](t)
}

func putAgainstAModel[T times.Number](t *testing.T) {
	random := rand.New(rand.NewSource(13))
	for range 2000 {
		x, m, w, all := times.New[T](), &model[T]{}, writer(t, ""), ""
		for range 1 + random.Intn(12) {
			v := after(random, x)
			bits := m.put(v)
			if got := x.Cost(v); got != len(bits) {
				t.Fatalf("Cost(%d): %d; want %d", v, got, len(bits))
			}
			x.Put(w, v)
			all += bits
			wantModel(t, x, m)
		}
		wantWritten(t, w, all)
	}
}

// P13.2

func TestGetOfTheChapter(t *testing.T) {
	getOfTheChapter[int64](t)
	getOfTheChapter[uint64](t)
}

func getOfTheChapter[T times.Number](t *testing.T) {
	x, r := times.New[T](), reader(t, "11110 001111101000  1110 000111100  0 0")
	for i, want := range []T{1000, 1060, 1120, 1180} {
		if v, e := x.Get(r); v != want || e != api.OK {
			t.Errorf("Get: %d, %d; want %d", v, e, want)
		}
		wantRow(t, x, i+1, want, []int64{0, 60, 60, 60}[i])
		at := []int{17, 30, 31, 32}[i]
		wantPos(t, r, at, 32-at)
	}
	if v, e := x.Get(r); v != 0 || e != api.ErrShort {
		t.Errorf("Get behind the last: %d, %d", v, e)
	}
	wantRow(t, x, 4, 1180, 60)
}

func TestGetTheFirst(t *testing.T) {
	for _, v := range edgesS() {
		x := times.New[int64]()
		wantGet(t, x, bitsS(v), v)
		wantRow(t, x, 1, v, 0)
	}
	for _, v := range edgesU() {
		x := times.New[uint64]()
		wantGet(t, x, bitsU(v), v)
		wantRow(t, x, 1, v, 0)
	}
	// The same bits are another number with a sign than without one.
	wantGet(t, times.New[int64](), "10 101", -3)
	wantGet(t, times.New[uint64](), "10 101", 5)
	wantGet(t, times.New[int64](), "11111111 1"+zeros(63), math.MinInt64)
	wantGet(t, times.New[uint64](), "11111111 1"+zeros(63), 1<<63)
	// A number may be right of the one and wrong of the other.
	wantGet(t, times.New[int64](), "110 000101", 5)
	wantRefused(t, times.New[uint64](), "110 000101", api.ErrForm)
	wantGet(t, times.New[uint64](), "110 111111", 63)
	wantRefused(t, times.New[int64](), "110 111111", api.ErrForm)
}

func TestGetFurtherOnes(t *testing.T) {
	getFurtherOnes[int64](t)
	getFurtherOnes[uint64](t)
}

// Behind the first number bits tell steps, and what these are more than the step ahead, with a sign in either kind of row.
func getFurtherOnes[T times.Number](t *testing.T) {
	for i := range lists[T]() {
		for _, change := range edgesS() {
			m := &model[T]{append([]T{}, lists[T]()[i]...)}
			if len(m.l) == 0 {
				continue
			}
			x := rows[T](t)[i]
			v := m.last() + T(m.step()+change)
			m.l = append(m.l, v)
			wantGet(t, x, bitsS(change), v)
			wantModel(t, x, m)
			even := v + T(m.step())
			m.l = append(m.l, even)
			wantGet(t, x, "0", even)
			wantModel(t, x, m)
		}
	}
	x := rowOf[T](t, 100)
	wantGet(t, x, "10 111", 99)
	wantGet(t, x, "0", 98)
	wantGet(t, x, "10 100", 101)
	wantRow(t, x, 4, 101, 3)
	wantRefused(t, x, "110 111111", api.ErrForm)
}

func TestGetThatGoesRound(t *testing.T) {
	x := times.New[int64]()
	wantGet(t, x, "11111111 0"+ones(63), math.MaxInt64)
	wantGet(t, x, "10 001", math.MinInt64)
	wantRow(t, x, 2, math.MinInt64, 1)
	wantGet(t, x, "11111111 0"+ones(63), 0)
	wantRow(t, x, 3, 0, math.MinInt64)
	wantGet(t, x, "10 111", math.MaxInt64)
	wantRow(t, x, 4, math.MaxInt64, math.MaxInt64)
	u := times.New[uint64]()
	wantGet(t, u, "0", 0)
	wantGet(t, u, "10 111", math.MaxUint64)
	wantRow(t, u, 2, math.MaxUint64, -1)
	wantGet(t, u, "10 010", 0)
	wantRow(t, u, 3, 0, 1)
	wantGet(t, u, "11111111 0"+ones(63), 1<<63)
	wantRow(t, u, 4, 1<<63, math.MinInt64)
	wantGet(t, u, "0", 0)
}

func TestGetOfNoBits(t *testing.T) {
	getOfNoBits[int64](t)
	getOfNoBits[uint64](t)
}

func getOfNoBits[T times.Number](t *testing.T) {
	for _, x := range rows[T](t) {
		wantRefused(t, x, "", api.ErrShort)
		// One that was read to its end, and one that fell short, have no bits either.
		r := reader(t, zeros(10))
		r.Get(10)
		was := x.Copy()
		if v, e := x.Get(r); v != 0 || e != api.ErrShort {
			t.Errorf("Get at the end: %d, %d", v, e)
		}
		r = reader(t, zeros(10))
		r.Get(11)
		if v, e := x.Get(r); v != 0 || e != api.ErrShort {
			t.Errorf("Get of one that fell short: %d, %d", v, e)
		}
		wantSame(t, x, was)
	}
}

func TestGetShort(t *testing.T) {
	getShort[int64](t)
	getShort[uint64](t)
}

// Of each group all that is less than it, in rows of all kinds.
func getShort[T times.Number](t *testing.T) {
	for _, x := range rows[T](t) {
		n, last, step := x.Len(), x.Last(), x.Step()
		for _, g := range groups() {
			for at := range len(g.lead) {
				wantRefused(t, x, g.lead[:at], api.ErrShort)
			}
			for at := range g.bits {
				for _, bits := range []string{zeros(at), ones(at)} {
					if v, e := x.Get(reader(t, g.lead+bits)); v != 0 || e != api.ErrShort {
						t.Errorf("Get of %s%s: %d, %d", g.lead, bits, v, e)
					}
					wantRow(t, x, n, last, step)
				}
			}
			if g.bits > 0 {
				wantRefused(t, x, g.lead+zeros(g.bits-1), api.ErrShort)
				wantRefused(t, x, g.lead+ones(g.bits-1), api.ErrShort)
			}
		}
	}
}

func TestGetShortOfRightBits(t *testing.T) {
	getShortOfRightBits[int64](t)
	getShortOfRightBits[uint64](t)
}

func getShortOfRightBits[T times.Number](t *testing.T) {
	for i, x := range rows[T](t) {
		m := &model[T]{lists[T]()[i]}
		for _, v := range edges[T]() {
			bits := m.bits(v)
			for n := range len(bits) {
				if got, e := x.Get(reader(t, bits[:n])); got != 0 || e != api.ErrShort {
					t.Errorf("Get of %s: %d, %d", bits[:n], got, e)
				}
				wantModel(t, x, m)
			}
			wantGet(t, x.Copy(), bits, v)
		}
	}
}

func TestGetOfAnEarlierGroup(t *testing.T) {
	for _, x := range rows[int64](t) {
		refuseEarlierS(t, x)
	}
	for _, x := range rows[uint64](t) {
		if x.Len() > 0 {
			refuseEarlierS(t, x)
		}
	}
	for i, g := range groups() {
		for _, v := range edgesU() {
			if ofU(v) < i {
				bits := g.lead + low(new(big.Int).SetUint64(v), g.bits)
				wantRefused(t, times.New[uint64](), bits, api.ErrForm)
				wantRefused(t, times.New[uint64](), bits+"1010", api.ErrForm)
			}
		}
	}
}

// refuseEarlierS: a row whose next number is put with a sign refuses all that an earlier group has.
func refuseEarlierS[T times.Number](t *testing.T, x *times.Row[T]) {
	t.Helper()
	for i, g := range groups() {
		for _, v := range edgesS() {
			if ofS(v) < i {
				bits := g.lead + low(big.NewInt(v), g.bits)
				wantRefused(t, x, bits, api.ErrForm)
				wantRefused(t, x, bits+"1010", api.ErrForm)
			}
		}
	}
}

func TestGetOnBehindEachError(t *testing.T) {
	getOnBehindErrors[int64](t)
	getOnBehindErrors[uint64](t)
}

// A row that refused goes on from other bits as if nothing had been, many times over.
func getOnBehindErrors[T times.Number](t *testing.T) {
	x := times.New[T]()
	refuse := func() {
		t.Helper()
		for _, bits := range []string{"", "1", "10", "10 01", ones(8), "11111111 " + ones(63)} {
			wantRefused(t, x, bits, api.ErrShort)
		}
		for _, bits := range []string{"10 000", "110 000011", "1110 000000111", "11111111 " + zeros(64)} {
			wantRefused(t, x, bits, api.ErrForm)
		}
	}
	refuse()
	wantGet(t, x, "11110 001111101000", 1000)
	refuse()
	wantGet(t, x, "1110 000111100", 1060)
	wantRow(t, x, 2, 1060, 60)
	refuse()
	wantGet(t, x, "0", 1120)
	refuse()
	wantPut(t, x, 1180, "0")
	refuse()
	wantPut(t, x, 1181, "1110 111000101")
	wantRow(t, x, 5, 1181, 1)
}

func TestGetAndThenPut(t *testing.T) {
	getAndPut[int64](t)
	getAndPut[uint64](t)
}

func getAndPut[T times.Number](t *testing.T) {
	x := times.New[T]()
	wantGet(t, x, "10 011", 3)
	wantPut(t, x, 5, "10 010")
	wantGet(t, x, "0", 7)
	wantPut(t, x, 9, "0")
	wantGet(t, x, "10 110", 9)
	wantPut(t, x, 9, "0")
	wantRow(t, x, 6, 9, 0)
	y := times.New[T]()
	wantPut(t, y, 3, "10 011")
	wantGet(t, y, "10 010", 5)
	wantPut(t, y, 7, "0")
	wantRow(t, y, 3, 7, 2)
	// What is read to its end goes on as the row that was put does.
	for i, l := range lists[T]() {
		put, w := times.New[T](), writer(t, "")
		for _, v := range l {
			put.Put(w, v)
		}
		got := times.New[T]()
		r, _ := stream.NewReader(w.Bytes(), w.Len())
		for range l {
			got.Get(r)
		}
		wantSame(t, got, put)
		m := &model[T]{append([]T{}, lists[T]()[i]...)}
		for _, v := range edges[T]() {
			wantPut(t, got, v, m.put(v))
			wantModel(t, got, m)
		}
	}
}

func wantAsTheModel[T times.Number](t *testing.T, x *times.Row[T], m *model[T], bits string) api.Errno {
	t.Helper()
	r := reader(t, bits)
	v, used, e := m.get(bits)
	if got, gotE := x.Get(r); got != v || gotE != e {
		t.Fatalf("Get of %s: %d, %d; want %d, %d", bits, got, gotE, v, e)
	}
	wantModel(t, x, m)
	if e == api.OK {
		wantPos(t, r, used, len(bits)-used)
	}
	return e
}

func TestGetOfAllBitsOfShortGroups(t *testing.T) {
	getAllShort[int64](t)
	getAllShort[uint64](t)
}

func getAllShort[T times.Number](t *testing.T) {
	for i, x := range rows[T](t) {
		for _, g := range groups()[:4] {
			for v := range int64(1) << g.bits {
				m := &model[T]{append([]T{}, lists[T]()[i]...)}
				wantAsTheModel(t, x.Copy(), m, g.lead+low(big.NewInt(v), g.bits)+"10")
			}
		}
	}
}

func TestGetAgainstAModel(t *testing.T) {
	getAgainstAModel[int64](t)
	getAgainstAModel[uint64](t)
}

// Rows are read from right bits, from such where one or two are others or some aren't there, and from any; the row goes on behind each error.
func getAgainstAModel[T times.Number](t *testing.T) {
	random := rand.New(rand.NewSource(14))
	seen := map[api.Errno]int{}
	for range 2000 {
		m, x := &model[T]{}, times.New[T]()
		for range 1 + random.Intn(10) {
			bits := []byte(m.bits(after(random, x)) + anyBits(random, random.Intn(4)))
			switch random.Intn(6) {
			case 0:
				bits[random.Intn(len(bits))] ^= 1
				bits[random.Intn(len(bits))] ^= 1
			case 1:
				bits = bits[:random.Intn(len(bits))]
			case 2:
				bits = []byte(ones(random.Intn(9)) + anyBits(random, random.Intn(80)))
			case 3: // bits that an earlier group has
				g := groups()[1+random.Intn(8)]
				bits = []byte(g.lead + strings.Repeat(string("01"[random.Intn(2)]), g.bits/2) + anyBits(random, g.bits-g.bits/2))
			}
			seen[wantAsTheModel(t, x, m, string(bits))]++
		}
	}
	for _, e := range []api.Errno{api.OK, api.ErrShort, api.ErrForm} {
		if seen[e] < 200 {
			t.Errorf("%d was told %d times", e, seen[e])
		}
	}
}

func TestGetWhatIsTakenPutPutsSo(t *testing.T) {
	getWhatPutPuts[int64](t)
	getWhatPutPuts[uint64](t)
}

// Whatever bits are read as a number, Put puts just these for it.
func getWhatPutPuts[T times.Number](t *testing.T) {
	random := rand.New(rand.NewSource(15))
	taken := 0
	for range 5000 {
		x := rowOf(t, []T{T(any64(random)), T(any64(random)), T(any64(random))}[:random.Intn(4)]...)
		y := x.Copy()
		bits := ones(random.Intn(9)) + anyBits(random, 1+random.Intn(80))
		r := reader(t, bits)
		v, e := x.Get(r)
		if e != api.OK {
			wantRow(t, x, y.Len(), y.Last(), y.Step())
			continue
		}
		taken++
		w := writer(t, "")
		y.Put(w, v)
		wantWritten(t, w, bits[:r.Pos()])
		wantRow(t, x, y.Len(), y.Last(), y.Step())
	}
	if taken < 1000 {
		t.Errorf("taken %d times", taken)
	}
}

func TestGetWhatWasPut(t *testing.T) {
	getWhatWasPut[int64](t)
	getWhatWasPut[uint64](t)
}

func getWhatWasPut[T times.Number](t *testing.T) {
	random := rand.New(rand.NewSource(16))
	for range 1000 {
		ahead := random.Intn(20)
		x, y, w := times.New[T](), times.New[T](), writer(t, anyBits(random, ahead))
		var behind []*times.Row[T]
		var at []int
		for range 1 + random.Intn(20) {
			x.Put(w, after(random, x))
			behind, at = append(behind, x.Copy()), append(at, w.Len())
		}
		w.Put(random.Uint64(), 8)
		r, _ := stream.NewReader(w.Bytes(), w.Len())
		r.Get(ahead)
		for i, b := range behind {
			if got, e := y.Get(r); got != b.Last() || e != api.OK {
				t.Fatalf("number %d: %d, %d; want %d", i, got, e, b.Last())
			}
			wantRow(t, y, b.Len(), b.Last(), b.Step())
			wantPos(t, r, at[i], w.Len()-at[i])
		}
		wantSame(t, y, x)
	}
}

func TestGetWhatWasPutAtTheEdges(t *testing.T) {
	getEdges[int64](t)
	getEdges[uint64](t)
}

func getEdges[T times.Number](t *testing.T) {
	for _, l := range append(lists[T](), edges[T]()) {
		wantAll(t, l...)
	}
}
