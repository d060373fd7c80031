package varbit_test

import (
	"bytes"
	"math"
	"math/big"
	"math/rand"
	"strings"
	"testing"

	"tidepole/api"
	"tidepole/stream"
	"tidepole/varbit"
)

// group: a line of the chapter's table, with how its ones begin.
type group struct {
	lead         string
	bits         int
	fromS, toS   int64
	fromU, toU   uint64
	othersBehind bool // of the last line: all others
}

func groups() []group {
	return []group{
		{lead: "0", bits: 0},
		{lead: "10", bits: 3, fromS: -3, toS: 4, fromU: 1, toU: 7},
		{lead: "110", bits: 6, fromS: -31, toS: 32, fromU: 8, toU: 63},
		{lead: "1110", bits: 9, fromS: -255, toS: 256, fromU: 64, toU: 511},
		{lead: "11110", bits: 12, fromS: -2047, toS: 2048, fromU: 512, toU: 1<<12 - 1},
		{lead: "111110", bits: 18, fromS: -131071, toS: 131072, fromU: 1 << 12, toU: 1<<18 - 1},
		{lead: "1111110", bits: 25, fromS: -16777215, toS: 1 << 24, fromU: 1 << 18, toU: 1<<25 - 1},
		{lead: "11111110", bits: 56, fromS: -1<<55 + 1, toS: 1 << 55, fromU: 1 << 25, toU: 1<<56 - 1},
		{lead: "11111111", bits: 64, othersBehind: true},
	}
}

// ofS: the first group of a number with a sign, by the table's numbers.
func ofS(v int64) int {
	for i, g := range groups() {
		if g.othersBehind || g.fromS <= v && v <= g.toS {
			return i
		}
	}
	return -1
}

// ofU: of one without a sign.
func ofU(v uint64) int {
	for i, g := range groups() {
		if g.othersBehind || g.fromU <= v && v <= g.toU {
			return i
		}
	}
	return -1
}

// low: the lowest n bits of a number of any size, from the highest one on; those of a negative one are from 2^n down.
func low(v *big.Int, n int) string {
	if n == 0 {
		return ""
	}
	if v.Sign() < 0 {
		v = new(big.Int).Add(v, new(big.Int).Lsh(big.NewInt(1), uint(n)))
	}
	s := v.Text(2)
	return strings.Repeat("0", n-len(s)) + s
}

func bitsS(v int64) string {
	g := groups()[ofS(v)]
	return g.lead + low(big.NewInt(v), g.bits)
}

func bitsU(v uint64) string {
	g := groups()[ofU(v)]
	return g.lead + low(new(big.Int).SetUint64(v), g.bits)
}

// pack: bits that are written as noughts and ones, in bytes; blanks are for the eye.
func pack(bits string) ([]byte, int) {
	bits = strings.ReplaceAll(bits, " ", "")
	b := make([]byte, (len(bits)+7)/8)
	for i, c := range bits {
		if c == '1' {
			b[i/8] |= 1 << (7 - i%8)
		}
	}
	return b, len(bits)
}

func writer(t *testing.T, bits string) *stream.Writer {
	t.Helper()
	b, n := pack(bits)
	w, e := stream.NewWriter(b, n)
	if e != api.OK {
		t.Fatalf("NewWriter(%x, %d): %d", b, n, e)
	}
	return w
}

func reader(t *testing.T, bits string) *stream.Reader {
	t.Helper()
	b, n := pack(bits)
	r, e := stream.NewReader(b, n)
	if e != api.OK {
		t.Fatalf("NewReader(%x, %d): %d", b, n, e)
	}
	return r
}

func wantWritten(t *testing.T, w *stream.Writer, bits string) {
	t.Helper()
	b, n := pack(bits)
	if w.Len() != n || !bytes.Equal(w.Bytes(), b) {
		t.Errorf("%d bits, %x; want %d, %x", w.Len(), w.Bytes(), n, b)
	}
}

func wantPutS(t *testing.T, ahead string, v int64, bits string) {
	t.Helper()
	w := writer(t, ahead)
	varbit.PutS(w, v)
	wantWritten(t, w, ahead+bits)
}

func wantPutU(t *testing.T, ahead string, v uint64, bits string) {
	t.Helper()
	w := writer(t, ahead)
	varbit.PutU(w, v)
	wantWritten(t, w, ahead+bits)
}

func wantGetS(t *testing.T, r *stream.Reader, v int64, e api.Errno) {
	t.Helper()
	if gotV, gotE := varbit.GetS(r); gotV != v || gotE != e {
		t.Errorf("GetS: %d, %d; want %d, %d", gotV, gotE, v, e)
	}
}

func wantGetU(t *testing.T, r *stream.Reader, v uint64, e api.Errno) {
	t.Helper()
	if gotV, gotE := varbit.GetU(r); gotV != v || gotE != e {
		t.Errorf("GetU: %d, %d; want %d, %d", gotV, gotE, v, e)
	}
}

func wantPos(t *testing.T, r *stream.Reader, pos, left int) {
	t.Helper()
	if r.Pos() != pos || r.Left() != left || r.Short() {
		t.Errorf("reader: pos %d, left %d, short %v; want %d, %d, false", r.Pos(), r.Left(), r.Short(), pos, left)
	}
}

// wantRefusedS: bits that GetS refuses so, with nothing beside the error.
func wantRefusedS(t *testing.T, bits string, e api.Errno) {
	t.Helper()
	wantGetS(t, reader(t, bits), 0, e)
}

func wantRefusedU(t *testing.T, bits string, e api.Errno) {
	t.Helper()
	wantGetU(t, reader(t, bits), 0, e)
}

func wantRefused(t *testing.T, bits string, e api.Errno) {
	t.Helper()
	wantRefusedS(t, bits, e)
	wantRefusedU(t, bits, e)
}

// edgesS: of each group its first and its last number on both sides of 0, and those next to them; 0; the least and the greatest there are.
func edgesS() []int64 {
	edges := []int64{0, 1, -1, math.MinInt64, math.MinInt64 + 1, math.MaxInt64 - 1, math.MaxInt64}
	for _, g := range groups() {
		if !g.othersBehind {
			edges = append(edges, g.fromS-1, g.fromS, g.fromS+1, g.toS-1, g.toS, g.toS+1)
		}
	}
	return edges
}

func edgesU() []uint64 {
	edges := []uint64{0, 1, 1<<63 - 1, 1 << 63, math.MaxUint64 - 1, math.MaxUint64}
	for _, g := range groups() {
		if !g.othersBehind {
			edges = append(edges, g.fromU, g.fromU+1, g.toU, g.toU+1)
			if g.fromU > 0 {
				edges = append(edges, g.fromU-1, g.toU-1)
			}
		}
	}
	return edges
}

// any64: numbers of any length, so that those of few bits come as often as those of many.
func any64(random *rand.Rand) uint64 { return random.Uint64() >> random.Intn(64) }

// anySigned: of both signs.
func anySigned(random *rand.Rand) int64 {
	v := int64(any64(random))
	if random.Intn(2) == 0 {
		return -v
	}
	return v
}

// anyBits: so many, as noughts and ones.
func anyBits(random *rand.Rand, n int) string {
	b := make([]byte, n)
	for i := range b {
		b[i] = byte('0' + random.Intn(2))
	}
	return string(b)
}

// P4.1

func TestPutSAsWrittenOut(t *testing.T) {
	for v, bits := range map[int64]string{
		0:                  "0",
		1:                  "10 001",
		4:                  "10 100",
		-1:                 "10 111",
		-3:                 "10 101",
		5:                  "110 000101",
		32:                 "110 100000",
		-4:                 "110 111100",
		-31:                "110 100001",
		33:                 "1110 000100001",
		256:                "1110 100000000",
		-32:                "1110 111100000",
		-255:               "1110 100000001",
		257:                "11110 000100000001",
		2048:               "11110 100000000000",
		-256:               "11110 111100000000",
		-2047:              "11110 100000000001",
		2049:               "111110 000000100000000001",
		131072:             "111110 100000000000000000",
		-2048:              "111110 111111100000000000",
		-131071:            "111110 100000000000000001",
		131073:             "1111110 0000000100000000000000001",
		16777216:           "1111110 1000000000000000000000000",
		-131072:            "1111110 1111111100000000000000000",
		-16777215:          "1111110 1000000000000000000000001",
		16777217:           "11111110" + strings.Repeat("0", 31) + "1" + strings.Repeat("0", 23) + "1",
		1 << 55:            "11111110 1" + strings.Repeat("0", 55),
		-16777216:          "11111110" + strings.Repeat("1", 32) + strings.Repeat("0", 24),
		-36028797018963967: "11111110 1" + strings.Repeat("0", 54) + "1",
		36028797018963969:  "11111111" + strings.Repeat("0", 8) + "1" + strings.Repeat("0", 54) + "1",
		-36028797018963968: "11111111" + strings.Repeat("1", 9) + strings.Repeat("0", 55),
		math.MaxInt64:      "11111111 0" + strings.Repeat("1", 63),
		math.MinInt64:      "11111111 1" + strings.Repeat("0", 63),
	} {
		wantPutS(t, "", v, bits)
	}
}

func TestPutUAsWrittenOut(t *testing.T) {
	for v, bits := range map[uint64]string{
		0:              "0",
		1:              "10 001",
		4:              "10 100",
		5:              "10 101",
		7:              "10 111",
		8:              "110 001000",
		63:             "110 111111",
		64:             "1110 001000000",
		511:            "1110 111111111",
		512:            "11110 001000000000",
		4095:           "11110 111111111111",
		4096:           "111110 000001000000000000",
		262143:         "111110 111111111111111111",
		262144:         "1111110 0000001000000000000000000",
		33554431:       "1111110 1111111111111111111111111",
		33554432:       "11111110" + strings.Repeat("0", 30) + "1" + strings.Repeat("0", 25),
		1<<56 - 1:      "11111110" + strings.Repeat("1", 56),
		1 << 56:        "11111111 00000001" + strings.Repeat("0", 56),
		1 << 63:        "11111111 1" + strings.Repeat("0", 63),
		math.MaxUint64: strings.Repeat("1", 72),
	} {
		wantPutU(t, "", v, bits)
	}
}

func TestLenSAsWrittenOut(t *testing.T) {
	for v, want := range map[int64]int{
		0: 1, 1: 5, -3: 5, 4: 5, -4: 9, 5: 9, -31: 9, 32: 9, -32: 13, 33: 13, -255: 13, 256: 13,
		-256: 17, 257: 17, -2047: 17, 2048: 17, -2048: 24, 2049: 24, -131071: 24, 131072: 24,
		-131072: 32, 131073: 32, -16777215: 32, 16777216: 32, -16777216: 64, 16777217: 64,
		-1<<55 + 1: 64, 1 << 55: 64, -1 << 55: 72, 1<<55 + 1: 72, math.MinInt64: 72, math.MaxInt64: 72,
	} {
		if got := varbit.LenS(v); got != want {
			t.Errorf("LenS(%d): %d; want %d", v, got, want)
		}
	}
}

func TestLenUAsWrittenOut(t *testing.T) {
	for v, want := range map[uint64]int{
		0: 1, 1: 5, 7: 5, 8: 9, 63: 9, 64: 13, 511: 13, 512: 17, 4095: 17, 4096: 24, 1<<18 - 1: 24,
		1 << 18: 32, 1<<25 - 1: 32, 1 << 25: 64, 1<<56 - 1: 64, 1 << 56: 72, 1 << 63: 72, math.MaxUint64: 72,
	} {
		if got := varbit.LenU(v); got != want {
			t.Errorf("LenU(%d): %d; want %d", v, got, want)
		}
	}
}

func TestPutAtTheEdges(t *testing.T) {
	for _, v := range edgesS() {
		bits := bitsS(v)
		wantPutS(t, "", v, bits)
		if got := varbit.LenS(v); got != len(bits) {
			t.Errorf("LenS(%d): %d; want %d", v, got, len(bits))
		}
	}
	for _, v := range edgesU() {
		bits := bitsU(v)
		wantPutU(t, "", v, bits)
		if got := varbit.LenU(v); got != len(bits) {
			t.Errorf("LenU(%d): %d; want %d", v, got, len(bits))
		}
	}
}

func TestPutBehindBits(t *testing.T) {
	const ahead = "10100101 00111100 11"
	for n := range len(ahead) + 1 {
		for _, v := range edgesS() {
			wantPutS(t, ahead[:n], v, bitsS(v))
		}
		for _, v := range edgesU() {
			wantPutU(t, ahead[:n], v, bitsU(v))
		}
	}
}

func TestPutOneBehindTheOther(t *testing.T) {
	w := writer(t, "1")
	varbit.PutS(w, 4)
	varbit.PutU(w, 4)
	varbit.PutS(w, -3)
	varbit.PutU(w, 0)
	varbit.PutS(w, 0)
	w.Bit(true)
	varbit.PutU(w, 8)
	varbit.PutS(w, 5)
	wantWritten(t, w, "1 10100 10100 10101 0 0 1 110001000 110000101")
}

func TestPutAgainstAModel(t *testing.T) {
	random := rand.New(rand.NewSource(7))
	for range 20000 {
		s, u := anySigned(random), any64(random)
		wantPutS(t, "", s, bitsS(s))
		wantPutU(t, "", u, bitsU(u))
		if varbit.LenS(s) != len(bitsS(s)) || varbit.LenU(u) != len(bitsU(u)) {
			t.Fatalf("LenS(%d): %d; LenU(%d): %d", s, varbit.LenS(s), u, varbit.LenU(u))
		}
	}
}

func TestPutOfSmallNumbers(t *testing.T) {
	for v := range int64(1 << 13) {
		wantPutS(t, "", v, bitsS(v))
		wantPutS(t, "", -v, bitsS(-v))
		wantPutU(t, "", uint64(v), bitsU(uint64(v)))
	}
}

// P4.2

func TestGetAsWrittenOut(t *testing.T) {
	for _, c := range []struct {
		bits string
		s    int64
		u    uint64
	}{
		{"0", 0, 0},
		{"10 001", 1, 1},
		{"10 100", 4, 4},
		{"10 101", -3, 5},
		{"10 111", -1, 7},
		{"110 100000", 32, 32},
		{"110 100001", -31, 33},
		{"110 111100", -4, 60},
		{"1110 100000000", 256, 256},
		{"1110 100000001", -255, 257},
		{"11110 100000000000", 2048, 2048},
		{"11110 100000000001", -2047, 2049},
		{"111110 100000000000000000", 131072, 131072},
		{"111110 100000000000000001", -131071, 131073},
		{"1111110 1000000000000000000000000", 16777216, 16777216},
		{"1111110 1000000000000000000000001", -16777215, 16777217},
		{"11111110 1" + strings.Repeat("0", 55), 1 << 55, 1 << 55},
		{"11111110 1" + strings.Repeat("0", 54) + "1", -1<<55 + 1, 1<<55 + 1},
		{"11111111 0" + strings.Repeat("1", 63), math.MaxInt64, math.MaxInt64},
		{"11111111 1" + strings.Repeat("0", 63), math.MinInt64, 1 << 63},
		{"11111111 1" + strings.Repeat("0", 62) + "1", math.MinInt64 + 1, 1<<63 + 1},
	} {
		wantGetS(t, reader(t, c.bits), c.s, api.OK)
		wantGetU(t, reader(t, c.bits), c.u, api.OK)
	}
	// These are right with a sign or without one, not both.
	wantGetS(t, reader(t, "110 000101"), 5, api.OK)
	wantRefusedU(t, "110 000101", api.ErrForm)
	wantGetU(t, reader(t, "110 111111"), 63, api.OK)
	wantRefusedS(t, "110 111111", api.ErrForm)
	wantGetU(t, reader(t, strings.Repeat("1", 72)), math.MaxUint64, api.OK)
	wantRefusedS(t, strings.Repeat("1", 72), api.ErrForm)
}

func TestGetAtTheEdges(t *testing.T) {
	// The bits behind are of other numbers, and must not be read.
	for _, behind := range []string{"", "0", "1", "1011", strings.Repeat("1", 80)} {
		for _, v := range edgesS() {
			r := reader(t, bitsS(v)+behind)
			wantGetS(t, r, v, api.OK)
			wantPos(t, r, len(bitsS(v)), len(behind))
		}
		for _, v := range edgesU() {
			r := reader(t, bitsU(v)+behind)
			wantGetU(t, r, v, api.OK)
			wantPos(t, r, len(bitsU(v)), len(behind))
		}
	}
}

func TestGetShort(t *testing.T) {
	wantRefused(t, "", api.ErrShort)
	for n := 1; n <= 8; n++ {
		wantRefused(t, strings.Repeat("1", n), api.ErrShort)
	}
	for _, g := range groups() {
		for n := range g.bits {
			wantRefused(t, g.lead+strings.Repeat("0", n), api.ErrShort)
			wantRefused(t, g.lead+strings.Repeat("1", n), api.ErrShort)
		}
	}
}

func TestGetShortOfARightNumber(t *testing.T) {
	for _, v := range edgesS() {
		bits := bitsS(v)
		for n := range len(bits) {
			wantRefusedS(t, bits[:n], api.ErrShort)
		}
	}
	for _, v := range edgesU() {
		bits := bitsU(v)
		for n := range len(bits) {
			wantRefusedU(t, bits[:n], api.ErrShort)
		}
	}
}

func TestGetShortBehindBits(t *testing.T) {
	for _, bits := range []string{"", "1", "10", "10 10", "110 00100", "11111111" + strings.Repeat("1", 63)} {
		r := reader(t, "11111"+bits)
		r.Get(5)
		wantGetS(t, r, 0, api.ErrShort)
		r = reader(t, "11111"+bits)
		r.Get(5)
		wantGetU(t, r, 0, api.ErrShort)
	}
}

func TestGetOfAReaderThatFellShort(t *testing.T) {
	// Nothing is left of one, so that it hasn't even the nought that it begins with.
	r := reader(t, "0000")
	r.Get(5)
	wantGetS(t, r, 0, api.ErrShort)
	wantGetU(t, r, 0, api.ErrShort)
}

func TestGetOfAnEarlierGroup(t *testing.T) {
	for i, g := range groups() {
		if i == 0 {
			continue
		}
		for _, v := range edgesS() {
			if ofS(v) < i {
				wantRefusedS(t, g.lead+low(big.NewInt(v), g.bits), api.ErrForm)
				wantRefusedS(t, g.lead+low(big.NewInt(v), g.bits)+"1010", api.ErrForm)
			}
		}
		for _, v := range edgesU() {
			if ofU(v) < i {
				wantRefusedU(t, g.lead+low(new(big.Int).SetUint64(v), g.bits), api.ErrForm)
				wantRefusedU(t, g.lead+low(new(big.Int).SetUint64(v), g.bits)+"1010", api.ErrForm)
			}
		}
	}
}

// told: what bits behind a group's ones are by the promise's words, in numbers that have no bound; and whether they are told at all.
func told(i int, bits string) (s int64, okS bool, u uint64, okU bool) {
	g := groups()[i]
	v, _ := new(big.Int).SetString("0"+bits, 2)
	u = v.Uint64()
	half := new(big.Int).Lsh(big.NewInt(1), uint(g.bits))
	half.Rsh(half, 1)
	// 2^63 itself is no signed number of 64 bits; what is put so is the least one.
	if v.Cmp(half) > 0 || g.othersBehind && v.Cmp(half) == 0 {
		v.Sub(v, new(big.Int).Lsh(big.NewInt(1), uint(g.bits)))
	}
	s = v.Int64()
	return s, ofS(s) == i, u, ofU(u) == i
}

func wantTold(t *testing.T, i int, bits string) {
	t.Helper()
	s, okS, u, okU := told(i, bits)
	all := groups()[i].lead + bits
	if okS {
		wantGetS(t, reader(t, all), s, api.OK)
		wantPutS(t, "", s, all)
	} else {
		wantRefusedS(t, all, api.ErrForm)
	}
	if okU {
		wantGetU(t, reader(t, all), u, api.OK)
		wantPutU(t, "", u, all)
	} else {
		wantRefusedU(t, all, api.ErrForm)
	}
}

func TestGetOfAllBitsOfShortGroups(t *testing.T) {
	for i, g := range groups() {
		if g.bits > 12 {
			break
		}
		for v := range int64(1) << g.bits {
			wantTold(t, i, low(big.NewInt(v), g.bits))
		}
	}
}

func TestGetAgainstAModel(t *testing.T) {
	random := rand.New(rand.NewSource(8))
	for range 5000 {
		for i, g := range groups() {
			// Some begin as small numbers and as those below 0 do, so that earlier groups come.
			same := 0
			if g.bits > 0 {
				same = random.Intn(g.bits + 1)
			}
			wantTold(t, i, strings.Repeat(string("01"[random.Intn(2)]), same)+anyBits(random, g.bits-same))
		}
	}
}

func TestGetOneBehindTheOther(t *testing.T) {
	w := writer(t, "")
	for _, v := range edgesS() {
		varbit.PutS(w, v)
		varbit.PutU(w, uint64(v))
	}
	r, e := stream.NewReader(w.Bytes(), w.Len())
	if e != api.OK {
		t.Fatal(e)
	}
	at := 0
	for _, v := range edgesS() {
		wantGetS(t, r, v, api.OK)
		wantGetU(t, r, uint64(v), api.OK)
		at += varbit.LenS(v) + varbit.LenU(uint64(v))
		wantPos(t, r, at, w.Len()-at)
	}
	wantGetS(t, r, 0, api.ErrShort)
}

func TestGetWhatWasPutBehindBits(t *testing.T) {
	random := rand.New(rand.NewSource(9))
	for range 5000 {
		bits, u, s := 1+random.Intn(20), any64(random), anySigned(random)
		w := writer(t, anyBits(random, bits))
		varbit.PutU(w, u)
		w.Bit(true)
		varbit.PutS(w, s)
		r, _ := stream.NewReader(w.Bytes(), w.Len())
		r.Get(bits)
		wantGetU(t, r, u, api.OK)
		if !r.Bit() {
			t.Fatalf("the bit behind %d is lost", u)
		}
		wantGetS(t, r, s, api.OK)
		wantPos(t, r, w.Len(), 0)
	}
}
