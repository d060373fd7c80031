package head_test

import (
	"bytes"
	"errors"
	"fmt"
	"math"
	"math/big"
	"math/rand"
	"reflect"
	"slices"
	"strings"
	"testing"

	"tidepole/api"
	"tidepole/fail"
	"tidepole/head"
	"tidepole/span"
	"tidepole/stream"
)

// H: a head; S: a span; and List: some of them, as the chapters write them.
type H = head.Head

type S = span.Span

type List = []span.Span

const far = api.MaxOffset

// infinite is the bits of the least float above 0 that is no right threshold.
const infinite = 0x7ff0000000000000

// group: a line of layer 4's table.
type group struct {
	lead       string
	bits       int
	fromS, toS int64
	toU        uint64
}

func groups() []group {
	return []group{
		{"0", 0, 0, 0, 0},
		{"10", 3, -3, 4, 7},
		{"110", 6, -31, 32, 63},
		{"1110", 9, -255, 256, 511},
		{"11110", 12, -2047, 2048, 1<<12 - 1},
		{"111110", 18, -131071, 131072, 1<<18 - 1},
		{"1111110", 25, -16777215, 1 << 24, 1<<25 - 1},
		{"11111110", 56, -1<<55 + 1, 1 << 55, 1<<56 - 1},
		{"11111111", 64, math.MinInt64, math.MaxInt64, math.MaxUint64},
	}
}

func ofS(v int64) int {
	for i, g := range groups() {
		if g.fromS <= v && v <= g.toS {
			return i
		}
	}
	return -1
}

func ofU(v uint64) int {
	for i, g := range groups() {
		if v <= g.toU {
			return i
		}
	}
	return -1
}

// power: 2^n.
func power(n int) *big.Int { return new(big.Int).Lsh(big.NewInt(1), uint(n)) }

// low: the lowest n bits, from the highest one on; those of a negative number are from 2^n down.
func low(v *big.Int, n int) string {
	if n == 0 {
		return ""
	}
	v = new(big.Int).Mod(v, power(n))
	return fmt.Sprintf("%0*s", n, v.Text(2))
}

func bitsU(v uint64) string {
	g := groups()[ofU(v)]
	return g.lead + low(new(big.Int).SetUint64(v), g.bits)
}

func bitsS(v int64) string {
	g := groups()[ofS(v)]
	return g.lead + low(big.NewInt(v), g.bits)
}

// powers: the bits of each power of two that has a byte by itself, by arithmetic, and that byte.
var powers = func() map[uint64]int {
	m := map[uint64]int{}
	for e := -243; e <= 10; e++ {
		m[math.Float64bits(math.Ldexp(1, e))] = 244 + e
	}
	return m
}()

// rightZero: is it a threshold? By what float it is.
func rightZero(v uint64) bool {
	f := math.Float64frombits(v)
	return f >= 0 && !math.IsInf(f, 1) && !math.Signbit(f)
}

func bitsZero(v uint64) string {
	b, has := powers[v]
	switch {
	case v == 0:
		return zeros(8)
	case has:
		return fmt.Sprintf("%08b", b)
	}
	return ones(8) + fmt.Sprintf("%064b", v)
}

func bitsSide(l List) string {
	bits := bitsU(uint64(len(l)))
	for _, s := range l {
		bits += bitsU(uint64(s.Len)) + bitsS(int64(s.Offset))
	}
	return bits
}

// bitsOf: a head's bits by the chapter's words.
func bitsOf(h H) string {
	return fmt.Sprintf("%02b%01b00000", h.Hint, h.Variant) + bitsS(int64(h.Schema)) + bitsZero(h.Zero) + bitsSide(h.Pos) + bitsSide(h.Neg)
}

// fault: an error at a place.
type fault struct {
	e     api.Errno
	place string
	at    int
}

var none = fault{}

func (f fault) err() error { return fail.Wrap(fail.New(f.e), f.place, f.at) }

// within: is a number from one to another one?
func within(v *big.Int, least, most int) bool {
	return v.Cmp(big.NewInt(int64(least))) >= 0 && v.Cmp(big.NewInt(int64(most))) <= 0
}

// modelSide: what chapter 6's words and this one's say of a side, in numbers of any size.
func modelSide(l List) api.Errno {
	if len(l) > api.MaxSpans {
		return api.ErrMany
	}
	end, all, e := big.NewInt(0), big.NewInt(0), api.OK
	for i, s := range l {
		offset, length := big.NewInt(int64(s.Offset)), big.NewInt(int64(s.Len))
		begin := new(big.Int).Add(end, offset)
		end = new(big.Int).Add(begin, length)
		all.Add(all, length)
		last := new(big.Int).Sub(end, big.NewInt(1))
		switch {
		case i == 0 && !within(offset, -far, far), i > 0 && !within(offset, 0, 2*far):
			return api.ErrSpan
		case !within(length, 0, api.MaxBuckets), !within(begin, -far, far), s.Len > 0 && !within(last, -far, far):
			return api.ErrSpan
		case !within(all, 0, api.MaxBuckets):
			return api.ErrSpan
		case s.Len == 0 || i > 0 && s.Offset == 0:
			e = api.ErrLayout
		}
	}
	return e
}

// modelCheck: what is wrong with a head first, by the chapter's words.
func modelCheck(h H) fault {
	switch {
	case h.Variant != 0 && h.Variant != 1:
		return fault{api.ErrVariant, "variant", 0}
	case h.Hint != 0 && h.Hint != 1 && h.Hint != 2 && h.Hint != 3:
		return fault{api.ErrHint, "hint", 0}
	case h.Schema < -4 || h.Schema > 8:
		return fault{api.ErrSchema, "schema", 0}
	case !rightZero(h.Zero):
		return fault{api.ErrRange, "zero", 0}
	case modelSide(h.Pos) != api.OK:
		return fault{modelSide(h.Pos), "pos", 0}
	case modelSide(h.Neg) != api.OK:
		return fault{modelSide(h.Neg), "neg", 0}
	}
	return none
}

// tape: bits that are read one by one, by a model of reading.
type tape struct {
	bits string
	pos  int
}

func (p *tape) left() int { return len(p.bits) - p.pos }

func (p *tape) take(n int) *big.Int {
	v, _ := new(big.Int).SetString("0"+p.bits[p.pos:p.pos+n], 2)
	p.pos += n
	return v
}

// group: which one comes, and its bits as a number.
func (p *tape) group() (int, *big.Int, api.Errno) {
	for i, g := range groups() {
		if !strings.HasPrefix(p.bits[p.pos:], g.lead) {
			continue
		}
		if p.left() < len(g.lead)+g.bits {
			return 0, nil, api.ErrShort
		}
		p.pos += len(g.lead)
		return i, p.take(g.bits), api.OK
	}
	return 0, nil, api.ErrShort
}

func (p *tape) u() (uint64, api.Errno) {
	at, v, e := p.group()
	if e != api.OK {
		return 0, e
	}
	if ofU(v.Uint64()) != at {
		return 0, api.ErrForm
	}
	return v.Uint64(), api.OK
}

func (p *tape) s() (int64, api.Errno) {
	at, v, e := p.group()
	if e != api.OK {
		return 0, e
	}
	n := groups()[at].bits
	// 2^63 itself is no number with a sign; what is put so is the least one.
	if half := power(n); n > 0 && v.Cmp(half.Rsh(half, 1)) > 0 || n == 64 && v.Cmp(power(63)) == 0 {
		v.Sub(v, power(n))
	}
	if ofS(v.Int64()) != at {
		return 0, api.ErrForm
	}
	return v.Int64(), api.OK
}

func (p *tape) zero() (uint64, api.Errno) {
	if p.left() < 8 {
		return 0, api.ErrShort
	}
	b := int(p.take(8).Int64())
	if b == 0 {
		return 0, api.OK
	}
	if b < 255 {
		return math.Float64bits(math.Ldexp(1, b-244)), api.OK
	}
	if p.left() < 64 {
		return 0, api.ErrShort
	}
	v := p.take(64).Uint64()
	_, has := powers[v]
	switch {
	case !rightZero(v):
		return 0, api.ErrRange
	case v == 0 || has:
		return 0, api.ErrForm
	}
	return v, api.OK
}

func (p *tape) side(place string) (List, fault) {
	n, e := p.u()
	if e != api.OK {
		return nil, fault{e, place, 0}
	}
	if n > 1024 {
		return nil, fault{api.ErrMany, place, 0}
	}
	l := List{}
	for range n {
		length, e := p.u()
		if e == api.OK && length > 4096 {
			e = api.ErrSpan
		}
		if e != api.OK {
			return nil, fault{e, place, len(l)}
		}
		offset, e := p.s()
		if e != api.OK {
			return nil, fault{e, place, len(l)}
		}
		l = append(l, sp(int(offset), int(length)))
	}
	if e := modelSide(l); e != api.OK {
		return nil, fault{e, place, len(l)}
	}
	return l, none
}

// modelGet: what bits tell, how many of them do, and what is wrong with them first, by the chapter's words.
func modelGet(bits string) (H, int, fault) {
	p, h := &tape{bits: bits}, H{}
	if p.left() < 8 {
		return H{}, 0, fault{api.ErrShort, "flags", 0}
	}
	h.Hint, h.Variant = int(p.take(2).Int64()), int(p.take(1).Int64())
	if p.take(5).Sign() != 0 {
		return H{}, 0, fault{api.ErrForm, "flags", 0}
	}
	schema, e := p.s()
	if e == api.OK && (schema < -4 || schema > 8) {
		e = api.ErrSchema
	}
	if e != api.OK {
		return H{}, 0, fault{e, "schema", 0}
	}
	h.Schema = int(schema)
	if h.Zero, e = p.zero(); e != api.OK {
		return H{}, 0, fault{e, "zero", 0}
	}
	var f fault
	if h.Pos, f = p.side("pos"); f != none {
		return H{}, 0, f
	}
	if h.Neg, f = p.side("neg"); f != none {
		return H{}, 0, f
	}
	return h, p.pos, none
}

// join: bits without the blanks that are for the eye.
func join(bits string) string { return strings.ReplaceAll(bits, " ", "") }

// zeros, ones: so many bits.
func zeros(n int) string { return strings.Repeat("0", n) }

func ones(n int) string { return strings.Repeat("1", n) }

// pack: bits in bytes.
func pack(bits string) ([]byte, int) {
	bits = join(bits)
	b := make([]byte, (len(bits)+7)/8)
	for i, c := range bits {
		if c == '1' {
			b[i/8] |= 1 << (7 - i%8)
		}
	}
	return b, len(bits)
}

func writer(t *testing.T, bits string) *stream.Writer {
	t.Helper()
	b, n := pack(bits)
	w, e := stream.NewWriter(b, n)
	if e != api.OK {
		t.Fatalf("NewWriter(%x, %d): %d", b, n, e)
	}
	return w
}

func reader(t *testing.T, bits string) *stream.Reader {
	t.Helper()
	b, n := pack(bits)
	r, e := stream.NewReader(b, n)
	if e != api.OK {
		t.Fatalf("NewReader(%x, %d): %d", b, n, e)
	}
	return r
}

func wantWritten(t *testing.T, w *stream.Writer, bits string) {
	t.Helper()
	b, n := pack(bits)
	if w.Len() != n || !bytes.Equal(w.Bytes(), b) {
		t.Errorf("%d bits, %x; want %d, %x", w.Len(), w.Bytes(), n, b)
	}
}

func wantPos(t *testing.T, r *stream.Reader, pos, left int) {
	t.Helper()
	if r.Pos() != pos || r.Left() != left || r.Short() {
		t.Errorf("reader: pos %d, left %d, short %v; want %d, %d, false", r.Pos(), r.Left(), r.Short(), pos, left)
	}
}

// cut: cut short for the eye.
func cut(s string) string {
	if len(s) <= 200 {
		return s
	}
	return fmt.Sprintf("%s.. (%d)", s[:200], len(s))
}

// show: a head, cut short for the eye.
func show(h H) string { return cut(fmt.Sprintf("%+v", h)) }

// wantErr: an error is just layer 2's Wrap of its New, with code, place and number; or it is nil.
func wantErr(t *testing.T, what string, err error, f fault) {
	t.Helper()
	if f == none {
		if err != nil {
			t.Errorf("%s: %v; want nil", cut(what), err)
		}
		return
	}
	if !reflect.DeepEqual(err, f.err()) {
		t.Errorf("%s: %v; want %v", cut(what), err, f.err())
		return
	}
	var e *fail.Error
	if !errors.As(err, &e) || e.Code != f.e || e.Place != f.place || e.At != f.at || fail.Code(e.Err) != f.e || fail.Depth(err) != 2 {
		t.Errorf("%s: %#v; want %v", cut(what), err, f)
	}
	if want := fmt.Sprintf("%s %d: %d", f.place, f.at, f.e); fail.Text(err) != want {
		t.Errorf("%s: %s; want %s", cut(what), fail.Text(err), want)
	}
}

func wantCheck(t *testing.T, h H, f fault) {
	t.Helper()
	wantErr(t, "Check of "+show(h), head.Check(h), f)
}

// sameHead: is all the same? Nil and empty lists are one.
func sameHead(a, b H) bool {
	for _, h := range []*H{&a, &b} {
		if len(h.Pos) == 0 {
			h.Pos = nil
		}
		if len(h.Neg) == 0 {
			h.Neg = nil
		}
	}
	return reflect.DeepEqual(a, b)
}

// leads: bits that stand ahead, a whole byte and others.
func leads() []string { return []string{"", "1", "010", "1111111", "10101010", "0000000011", ones(13)} }

// wantPut: a head is put as these bits, behind whatever stands ahead, and Len tells how many.
func wantPut(t *testing.T, h H, bits string) {
	t.Helper()
	if got := head.Len(h); got != len(join(bits)) {
		t.Errorf("Len of %s: %d; want %d", show(h), got, len(join(bits)))
	}
	for _, lead := range leads() {
		w := writer(t, lead)
		wantErr(t, "Put of "+show(h), head.Put(w, h), none)
		wantWritten(t, w, lead+bits)
	}
}

// wantRefused: Check, Put and Len refuse a head so, and nothing is put.
func wantRefused(t *testing.T, h H, f fault) {
	t.Helper()
	wantCheck(t, h, f)
	for _, lead := range leads() {
		w := writer(t, lead)
		wantErr(t, "Put of "+show(h), head.Put(w, h), f)
		wantWritten(t, w, lead)
		w.Put(5, 3)
		wantWritten(t, w, lead+"101")
	}
	if got := head.Len(h); got != 0 {
		t.Errorf("Len of %s: %d; want 0", show(h), got)
	}
}

// wantGet: bits are read as a head, and those behind them aren't read.
func wantGet(t *testing.T, bits string, h H) {
	t.Helper()
	for _, behind := range []string{"", "0", "1", "1011", zeros(20), ones(80)} {
		r := reader(t, bits+behind)
		got, err := head.Get(r)
		wantErr(t, "Get of "+bits, err, none)
		if !head.Equal(got, h) || !sameHead(got, h) {
			t.Errorf("Get of %s: %s; want %s", cut(bits), show(got), show(h))
		}
		wantPos(t, r, len(join(bits)), len(behind))
	}
}

// wantNot: Get refuses bits so, with nothing beside the error, whatever stood ahead of them.
func wantNot(t *testing.T, bits string, f fault) {
	t.Helper()
	for _, lead := range []string{"", "101"} {
		r := reader(t, lead+bits)
		if lead != "" {
			r.Get(len(lead))
		}
		h, err := head.Get(r)
		wantErr(t, "Get of "+bits, err, f)
		if h.Variant != 0 || h.Hint != 0 || h.Schema != 0 || h.Zero != 0 || len(h.Pos) != 0 || len(h.Neg) != 0 {
			t.Errorf("Get of %s: %s beside an error", cut(bits), show(h))
		}
	}
}

// wantBoth: a head is right, is put as the model has it, and is read again.
func wantBoth(t *testing.T, h H) {
	t.Helper()
	wantCheck(t, h, none)
	wantPut(t, h, bitsOf(h))
	wantGet(t, bitsOf(h), h)
}

// plain: a head in which all is something.
func plain() H {
	return H{
		Variant: head.Floats, Hint: head.NotReset, Schema: -4, Zero: math.Float64bits(0.5),
		Pos: list(-3, 2, 1, 1), Neg: list(40, 9),
	}
}

// sp: a span.
func sp(offset, n int) S { return S{Offset: offset, Len: n} }

// list: spans, each by its Offset and its Len.
func list(l ...int) List {
	var spans List
	for i := 0; i < len(l); i += 2 {
		spans = append(spans, sp(l[i], l[i+1]))
	}
	return spans
}

// spans: n spans, all alike but for where the first one begins.
func spans(n, first int, s S) List {
	l := slices.Repeat(List{s}, n)
	if n > 0 {
		l[0].Offset = first
	}
	return l
}

// sides: right and canonical lists: none, one, some, the most there may be, and those at the limits.
func sides() []List {
	return []List{
		nil,
		{},
		list(0, 1),
		list(-1, 1),
		list(3, 2, 1, 1),
		list(-3, 2, 1, 1, 7, 60, 63, 64, 4, 511, 5, 512),
		list(far, 1),
		list(-far, 1),
		list(-far, 1, 2*far-1, 1),
		list(far-4095, 4096),
		list(-far, 4096),
		list(-far, 4095, 2*far-4095, 1),
		list(0, 4096),
		list(0, 2048, 1, 2048),
		spans(1023, 0, sp(1, 1)),
		spans(1024, 0, sp(1, 1)),
		spans(1024, -far, sp(1, 4)),
		spans(1024, -far, sp(2047, 1)),
		spans(1024, far-1024*5+1, sp(1, 4)),
	}
}

// wrong: a list that isn't right, or isn't canonical, and what is told of it.
type wrong struct {
	l List
	e api.Errno
}

func wrongs() []wrong {
	return []wrong{
		// more than there may be, ahead of all else
		{spans(1025, 0, sp(1, 1)), api.ErrMany},
		{spans(1025, far+1, sp(-1, -1)), api.ErrMany},
		{spans(1025, 0, sp(0, 0)), api.ErrMany},
		{spans(5000, 0, sp(1, 1)), api.ErrMany},
		// a Len
		{list(0, -1), api.ErrSpan},
		{list(0, 4097), api.ErrSpan},
		{list(0, math.MaxInt), api.ErrSpan},
		{list(0, math.MinInt), api.ErrSpan},
		{list(0, 1, 1, -1), api.ErrSpan},
		{list(0, 1, 1, 4097), api.ErrSpan},
		{list(0, 1, 1, 1, 1, math.MinInt), api.ErrSpan},
		// an Offset
		{list(far+1, 1), api.ErrSpan},
		{list(-far-1, 1), api.ErrSpan},
		{list(-far-1, 2), api.ErrSpan},
		{list(math.MaxInt, 1), api.ErrSpan},
		{list(math.MinInt, 1), api.ErrSpan},
		{list(0, 1, -1, 1), api.ErrSpan},
		{list(0, 1, 2*far+1, 1), api.ErrSpan},
		{list(0, 1, math.MaxInt, 1), api.ErrSpan},
		{list(0, 1, math.MinInt, 1), api.ErrSpan},
		// places beyond the limits
		{list(far, 2), api.ErrSpan},
		{list(far-4094, 4096), api.ErrSpan},
		{list(-far, 1, 2*far, 1), api.ErrSpan},
		{list(0, 1, far, 1), api.ErrSpan},
		{list(far, 1, 0, 0), api.ErrSpan},
		{list(far, 1, 1, 1), api.ErrSpan},
		// more places than there may be
		{list(0, 4096, 1, 1), api.ErrSpan},
		{list(0, 2048, 1, 2049), api.ErrSpan},
		{spans(1024, 0, sp(1, 5)), api.ErrSpan},
		// not right, ahead of not canonical
		{list(0, 0, 0, -1), api.ErrSpan},
		{list(0, 1, 0, 4096), api.ErrSpan},
		{list(far, 1, 0, 1), api.ErrSpan},
		// right, but not canonical
		{list(0, 0), api.ErrLayout},
		{list(far, 0), api.ErrLayout},
		{list(-far, 0), api.ErrLayout},
		{list(0, 1, 0, 1), api.ErrLayout},
		{list(0, 1, 1, 0), api.ErrLayout},
		{list(0, 0, 1, 1), api.ErrLayout},
		{list(0, 0, 0, 0), api.ErrLayout},
		{list(3, 2, 1, 1, 0, 1), api.ErrLayout},
		{list(3, 2, 1, 1, 5, 0), api.ErrLayout},
		{list(3, 2, 1, 0, 5, 1), api.ErrLayout},
		{list(0, 4096, 0, 0), api.ErrLayout},
		{spans(1024, 0, sp(0, 1)), api.ErrLayout},
		{spans(1024, 0, sp(0, 0)), api.ErrLayout},
		{spans(1024, 0, sp(1, 0)), api.ErrLayout},
	}
}

// zeroes: right thresholds.
func zeroes() []uint64 {
	l := []uint64{0, 1, 2, 1 << 51, 1<<52 - 1, 1 << 52, infinite - 1}
	for _, f := range []float64{0.1, 0.5, 1, 1.5, 2, 3, 1000, 1024, 1025, 2048, 1e300} {
		l = append(l, math.Float64bits(f))
	}
	for _, e := range []int{-1074, -1022, -244, -243, -242, -128, -1, 0, 1, 9, 10, 11, 1023} {
		v := math.Float64bits(math.Ldexp(1, e))
		l = append(l, v-1, v, v+1)
	}
	return l
}

// nozeroes: those that aren't right.
func nozeroes() []uint64 {
	return []uint64{
		infinite, infinite + 1, 0x7ff8000000000000, 1<<63 - 1,
		1 << 63, 1<<63 + 1, math.Float64bits(-0.5), math.Float64bits(-1), 1<<63 | infinite - 1,
		1<<63 | infinite, 1<<63 | infinite + 1, math.MaxUint64 - 1, math.MaxUint64,
	}
}

func hints() []int { return []int{head.Unknown, head.Reset, head.NotReset, head.Gauge} }

func variants() []int { return []int{head.Ints, head.Floats} }

// rights: heads that are right: each hint with each variant and each schema, and each threshold and side, on both sides.
func rights() []H {
	var l []H
	for _, variant := range variants() {
		for _, hint := range hints() {
			for schema := api.MinSchema; schema <= api.MaxSchema; schema++ {
				l = append(l, H{Variant: variant, Hint: hint, Schema: schema})
			}
		}
	}
	for _, v := range zeroes() {
		h := plain()
		h.Zero = v
		l = append(l, H{Zero: v}, h)
	}
	for _, s := range sides() {
		h, g := plain(), plain()
		h.Pos, g.Neg = s, s
		l = append(l, h, g, H{Pos: s}, H{Neg: s}, H{Schema: 8, Hint: head.Gauge, Pos: s, Neg: s})
	}
	return l
}

// turn: a change of a head, and what Check tells of the changed one, if nothing ahead of it is wrong.
type turn struct {
	do func(h *H)
	f  fault
}

// turns: of each error one change or more, in the order in which the promise names them.
func turns() [][]turn {
	var all [6][]turn
	add := func(n int, e api.Errno, place string, do func(h *H)) {
		all[n] = append(all[n], turn{do, fault{e, place, 0}})
	}
	for _, v := range []int{-1, 2, 3, 4, -2, 256, 1 << 32, math.MinInt, math.MaxInt} {
		add(0, api.ErrVariant, "variant", func(h *H) { h.Variant = v })
	}
	for _, v := range []int{-1, 4, 5, 8, -4, 256, 1 << 32, math.MinInt, math.MaxInt} {
		add(1, api.ErrHint, "hint", func(h *H) { h.Hint = v })
	}
	for _, v := range []int{-5, 9, -6, 10, 256, 1 << 32, math.MinInt, math.MaxInt} {
		add(2, api.ErrSchema, "schema", func(h *H) { h.Schema = v })
	}
	for _, v := range nozeroes() {
		add(3, api.ErrRange, "zero", func(h *H) { h.Zero = v })
	}
	for _, c := range wrongs() {
		add(4, c.e, "pos", func(h *H) { h.Pos = c.l })
		add(5, c.e, "neg", func(h *H) { h.Neg = c.l })
	}
	return all[:]
}

// P14.1

func TestNumbers(t *testing.T) {
	if head.Unknown != 0 || head.Reset != 1 || head.NotReset != 2 || head.Gauge != 3 {
		t.Errorf("hints: %d, %d, %d, %d", head.Unknown, head.Reset, head.NotReset, head.Gauge)
	}
	if head.Ints != 0 || head.Floats != 1 {
		t.Errorf("variants: %d, %d", head.Ints, head.Floats)
	}
}

func TestCheckRight(t *testing.T) {
	wantCheck(t, H{}, none)
	wantCheck(t, plain(), none)
	for _, h := range rights() {
		wantCheck(t, h, none)
	}
}

func TestCheckWrong(t *testing.T) {
	for _, l := range turns() {
		for _, c := range l {
			for _, h := range []H{{}, plain()} {
				c.do(&h)
				wantRefused(t, h, c.f)
			}
		}
	}
}

func TestCheckNumbers(t *testing.T) {
	for v := -20; v <= 20; v++ {
		for _, h := range []H{{Variant: v}, {Hint: v}, {Schema: v}} {
			wantCheck(t, h, modelCheck(h))
		}
	}
}

// Each error ahead of all later ones, whichever of these apply.
func TestCheckOrder(t *testing.T) {
	all := turns()
	for set := 1; set < 1<<len(all); set++ {
		for k := range 4 {
			h, first := plain(), none
			for i, l := range all {
				if set>>i&1 == 0 {
					continue
				}
				c := l[k*7%len(l)]
				c.do(&h)
				if first == none {
					first = c.f
				}
			}
			wantRefused(t, h, first)
		}
	}
}

// A side's number is always 0 in Check, and Pos is told ahead of Neg, whatever is wrong with each.
func TestCheckSides(t *testing.T) {
	for _, a := range wrongs() {
		for _, b := range wrongs() {
			wantCheck(t, H{Pos: a.l, Neg: b.l}, fault{a.e, "pos", 0})
		}
		for _, l := range sides() {
			wantCheck(t, H{Pos: a.l, Neg: l}, fault{a.e, "pos", 0})
			wantCheck(t, H{Pos: l, Neg: a.l}, fault{a.e, "neg", 0})
		}
	}
}

// All lists of up to three small spans, on either side.
func TestCheckSmall(t *testing.T) {
	var some []S
	for offset := -1; offset <= 1; offset++ {
		for n := -1; n <= 1; n++ {
			some = append(some, sp(offset, n))
		}
	}
	lists := []List{nil}
	for from := 0; len(lists[from]) < 3; from++ {
		for _, s := range some {
			lists = append(lists, append(slices.Clone(lists[from]), s))
		}
	}
	for _, l := range lists {
		for _, h := range []H{{Pos: l}, {Neg: l}} {
			wantCheck(t, h, modelCheck(h))
			if modelCheck(h) == none {
				wantBoth(t, h)
			}
		}
	}
}

func TestCheckMemory(t *testing.T) {
	for _, l := range sides() {
		wantUntouched(t, l, func(h H) { head.Check(h) })
	}
	for _, c := range wrongs() {
		wantUntouched(t, c.l, func(h H) { head.Check(h) })
	}
}

// wantUntouched: a call doesn't change lists that it is handed, their spare room neither.
func wantUntouched(t *testing.T, l List, do func(h H)) {
	t.Helper()
	roomy := func() List { return append(slices.Clone(l), sp(77, 7), sp(78, 8), sp(79, 9)) }
	pos, neg := roomy(), roomy()
	do(H{Pos: pos[:len(l)], Neg: neg[:len(l)]})
	if !slices.Equal(pos, roomy()) || !slices.Equal(neg, roomy()) {
		t.Errorf("%v and %v were changed; want %v", pos, neg, roomy())
	}
}

func wantEqual(t *testing.T, a, b H, want bool) {
	t.Helper()
	if got := head.Equal(a, b); got != want {
		t.Errorf("Equal of %s and %s: %v; want %v", show(a), show(b), got, want)
	}
	if got := head.Equal(b, a); got != want {
		t.Errorf("Equal of %s and %s: %v; want %v", show(b), show(a), got, want)
	}
}

// own: a head with lists of its own.
func own(h H) H {
	h.Pos, h.Neg = slices.Clone(h.Pos), slices.Clone(h.Neg)
	return h
}

func TestEqual(t *testing.T) {
	l := rights()
	for i, a := range l {
		wantEqual(t, a, a, true)
		wantEqual(t, a, own(a), true)
		for _, b := range l[:i] {
			wantEqual(t, a, b, sameHead(a, b))
		}
	}
}

func TestEqualOneThing(t *testing.T) {
	for i, do := range []func(h *H){
		func(h *H) { h.Variant = 1 - h.Variant },
		func(h *H) { h.Variant += 2 },
		func(h *H) { h.Hint++ },
		func(h *H) { h.Hint += 4 },
		func(h *H) { h.Schema++ },
		func(h *H) { h.Schema = -h.Schema - 1 },
		func(h *H) { h.Schema += 1 << 32 },
		func(h *H) { h.Zero++ },
		func(h *H) { h.Zero ^= 1 << 63 },
		func(h *H) { h.Zero ^= 1 << 32 },
		func(h *H) { h.Pos = append(h.Pos, sp(0, 0)) },
		func(h *H) { h.Pos = append(h.Pos, sp(1, 1)) },
		func(h *H) { h.Neg = append(h.Neg, sp(0, 0)) },
		func(h *H) { h.Neg = append(h.Neg, sp(1, 1)) },
		func(h *H) { h.Pos = append(list(0, 0), h.Pos...) },
		func(h *H) { h.Neg = append(list(0, 0), h.Neg...) },
	} {
		for _, h := range []H{{}, plain(), {Variant: -7, Hint: 99, Schema: 1000, Zero: math.MaxUint64, Pos: list(-1, -1)}} {
			turned := own(h)
			do(&turned)
			if sameHead(h, turned) {
				t.Fatalf("change %d changes nothing", i)
			}
			wantEqual(t, h, turned, false)
		}
	}
}

func TestEqualSpans(t *testing.T) {
	base := plain()
	base.Pos = list(-3, 2, 1, 1, 5, 4, 2, 7)
	base.Neg = list(40, 9, 3, 3, 1, 2)
	for i := range base.Pos {
		for _, s := range list(1, 0, -1, 0, 0, 1, 0, -1, 1<<32, 0, 0, 1<<32) {
			h := own(base)
			h.Pos[i].Offset += s.Offset
			h.Pos[i].Len += s.Len
			wantEqual(t, base, h, false)
		}
		h := own(base)
		h.Pos = h.Pos[:i]
		wantEqual(t, base, h, false)
	}
	for i := range base.Neg {
		for _, s := range list(1, 0, -1, 0, 0, 1, 0, -1) {
			h := own(base)
			h.Neg[i].Offset += s.Offset
			h.Neg[i].Len += s.Len
			wantEqual(t, base, h, false)
		}
		h := own(base)
		h.Neg = h.Neg[:i]
		wantEqual(t, base, h, false)
	}
	h := own(base)
	h.Pos, h.Neg = h.Neg, h.Pos
	wantEqual(t, base, h, false)
	wantEqual(t, H{Pos: list(1, 1)}, H{Neg: list(1, 1)}, false)
	wantEqual(t, H{Pos: list(1, 2)}, H{Pos: list(2, 1)}, false)
	wantEqual(t, H{Pos: list(1, 1, 2, 2)}, H{Pos: list(2, 2, 1, 1)}, false)
}

// Spans are held against each other one by one, and not by the places that they have.
func TestEqualSamePlaces(t *testing.T) {
	for _, l := range []List{list(3, 1, 0, 1), list(3, 0, 0, 2), list(3, 2, 0, 0), list(2, 0, 1, 2)} {
		wantEqual(t, H{Pos: list(3, 2)}, H{Pos: l}, false)
		wantEqual(t, H{Neg: list(3, 2)}, H{Neg: l}, false)
	}
}

func TestEqualNil(t *testing.T) {
	for _, a := range []List{nil, {}, make(List, 0, 5)} {
		for _, b := range []List{nil, {}, make(List, 0, 5)} {
			wantEqual(t, H{Pos: a, Neg: b}, H{}, true)
			wantEqual(t, H{Pos: a, Neg: b}, H{Pos: b, Neg: a}, true)
			wantEqual(t, H{Pos: a, Neg: b}, H{Pos: list(0, 0), Neg: a}, false)
			wantEqual(t, H{Pos: a, Neg: b}, H{Pos: b, Neg: list(0, 0)}, false)
			wantBoth(t, H{Pos: a, Neg: b})
		}
	}
}

// What isn't right may be the same nonetheless.
func TestEqualWrong(t *testing.T) {
	for _, l := range turns() {
		for _, c := range l {
			h, g := plain(), plain()
			c.do(&h)
			c.do(&g)
			wantEqual(t, h, own(g), true)
			wantEqual(t, h, plain(), false)
		}
	}
}

func TestEqualMemory(t *testing.T) {
	for _, l := range sides() {
		wantUntouched(t, l, func(h H) { head.Equal(h, own(h)) })
		wantUntouched(t, l, func(h H) { head.Equal(H{}, h) })
	}
}

// P14.2

// The example of the chapter.
func TestPutNothing(t *testing.T) {
	if got := head.Len(H{}); got != 19 {
		t.Errorf("Len of nothing: %d; want 19", got)
	}
	wantPut(t, H{}, zeros(19))
	wantGet(t, zeros(19), H{})
}

// Spans on both sides, written out by hand.
func TestPutByHand(t *testing.T) {
	h := H{
		Variant: head.Floats, Hint: head.NotReset, Schema: -4, Zero: 0x3ff0000000000000,
		Pos: list(-3, 2, 1, 1), Neg: list(40, 9),
	}
	bits := "10 1 00000" + // hint 2, variant 1
		"110 111100" + // schema -4
		"11110100" + // threshold 1: the byte 244
		"10 010" + // two spans:
		"10 010 10 101" + // 2 from -3 on
		"10 001 10 001" + // 1, one behind them
		"10 001" + // one span:
		"110 001001 1110 000101000" // 9 from 40 on
	wantPut(t, h, bits)
	wantGet(t, bits, h)

	h = H{
		Variant: head.Ints, Hint: head.Gauge, Schema: 8, Zero: 0x3ff8000000000000,
		Neg: list(-far, 4096, 4, 0, 1, 0)[:1],
	}
	bits = "11 0 00000" + "110 001000" +
		"11111111 0011111111111000" + zeros(48) + // threshold 1.5: its 64 bits
		"0" +
		"10 001" + "111110 000001000000000000" + "1111110 1111100000000000000000000"
	wantPut(t, h, bits)
	wantGet(t, bits, h)

	h = H{Hint: head.Reset, Schema: 1, Zero: 0x0010000000000000, Pos: list(far, 1)}
	bits = "01 0 00000" + "10 001" + "11111111 0000000000010000" + zeros(48) +
		"10 001" + "10 001 1111110 0000100000000000000000000" + "0"
	wantPut(t, h, bits)
	wantGet(t, bits, h)
}

func TestPut(t *testing.T) {
	for _, h := range rights() {
		wantBoth(t, h)
	}
}

// Heads one behind the other, as they are put and read.
func TestPutSeveral(t *testing.T) {
	l := rights()
	w, bits := writer(t, ""), ""
	for _, h := range l {
		wantErr(t, "Put", head.Put(w, h), none)
		bits += bitsOf(h)
	}
	wantWritten(t, w, bits)
	r, _ := stream.NewReader(w.Bytes(), w.Len())
	for _, h := range l {
		got, err := head.Get(r)
		if err != nil || !sameHead(got, h) {
			t.Errorf("Get: %s, %v; want %s", show(got), err, show(h))
		}
	}
	wantPos(t, r, w.Len(), 0)
}

// One that is refused between others leaves no trace.
func TestPutRefusedBetween(t *testing.T) {
	for _, l := range turns() {
		h := plain()
		l[0].do(&h)
		w := writer(t, "")
		head.Put(w, plain())
		wantErr(t, "Put", head.Put(w, h), l[0].f)
		wantErr(t, "Put", head.Put(w, H{}), none)
		wantWritten(t, w, bitsOf(plain())+bitsOf(H{}))
	}
}

// How many bits the spans' numbers have, at the edges of layer 4's groups.
func TestLen(t *testing.T) {
	for _, c := range []struct {
		s    S
		bits int
	}{
		{sp(0, 1), 5 + 1},
		{sp(1, 7), 5 + 5},
		{sp(-3, 7), 5 + 5},
		{sp(4, 8), 9 + 5},
		{sp(-4, 63), 9 + 9},
		{sp(5, 64), 13 + 9},
		{sp(-31, 511), 13 + 9},
		{sp(32, 512), 17 + 9},
		{sp(33, 4095), 17 + 13},
		{sp(-255, 4096), 24 + 13},
		{sp(256, 1), 5 + 13},
		{sp(257, 1), 5 + 17},
		{sp(-2047, 1), 5 + 17},
		{sp(2048, 1), 5 + 17},
		{sp(2049, 1), 5 + 24},
		{sp(131072, 1), 5 + 24},
		{sp(-131072, 1), 5 + 32},
		{sp(131073, 1), 5 + 32},
	} {
		h := H{Pos: List{c.s}}
		if got := head.Len(h); got != 8+1+8+5+c.bits+1 {
			t.Errorf("Len of %s: %d; want %d", show(h), got, 8+1+8+5+c.bits+1)
		}
		wantBoth(t, h)
		wantBoth(t, H{Neg: List{c.s}})
	}
	for n, bits := range map[int]int{0: 1, 1: 5, 7: 5, 8: 9, 63: 9, 64: 13, 511: 13, 512: 17, 1024: 17} {
		h := H{Neg: spans(n, 1, sp(1, 1))}
		if got := head.Len(h); got != 8+1+8+1+bits+n*10 {
			t.Errorf("Len of %d spans: %d; want %d", n, got, 8+1+8+1+bits+n*10)
		}
	}
	for schema, bits := range map[int]int{-4: 9, -3: 5, -1: 5, 0: 1, 1: 5, 4: 5, 5: 9, 8: 9} {
		if got := head.Len(H{Schema: schema}); got != 18+bits {
			t.Errorf("Len with schema %d: %d; want %d", schema, got, 18+bits)
		}
	}
}

func TestPutMemory(t *testing.T) {
	for _, l := range sides() {
		wantUntouched(t, l, func(h H) {
			head.Put(writer(t, ""), h)
			head.Len(h)
		})
	}
	for _, c := range wrongs() {
		wantUntouched(t, c.l, func(h H) {
			head.Put(writer(t, ""), h)
			head.Len(h)
		})
	}
}

// What was put stays, whatever becomes of the lists.
func TestPutKeepsNothing(t *testing.T) {
	h, w := plain(), writer(t, "")
	head.Put(w, h)
	clear(h.Pos)
	clear(h.Neg)
	wantWritten(t, w, bitsOf(plain()))
}

// P14.3

// side: how many spans, and then their numbers as bits.
func side(n uint64, l ...string) string { return bitsU(n) + strings.Join(l, "") }

// of: a span's bits.
func of(s S) string { return bitsU(uint64(s.Len)) + bitsS(int64(s.Offset)) }

// ahead: the bits of a head of nothing ahead of its sides.
func ahead() string { return zeros(17) }

func TestGetRight(t *testing.T) {
	for _, h := range rights() {
		wantGet(t, bitsOf(h), h)
	}
}

// Each byte of flags: the five noughts, whichever of them isn't one.
func TestGetFlags(t *testing.T) {
	for v := range 256 {
		bits := fmt.Sprintf("%08b", v)
		if v&31 != 0 {
			wantNot(t, bits, fault{api.ErrForm, "flags", 0})
			wantNot(t, bits+zeros(11), fault{api.ErrForm, "flags", 0})
			continue
		}
		wantNot(t, bits, fault{api.ErrShort, "schema", 0})
		wantGet(t, bits+zeros(11), H{Hint: v >> 6, Variant: v >> 5 & 1})
	}
	for i := range 5 {
		wantNot(t, zeros(3+i)+"1"+zeros(20), fault{api.ErrForm, "flags", 0})
	}
}

// Fewer than eight bits, even such that wouldn't be right.
func TestGetFlagsShort(t *testing.T) {
	for n := range 8 {
		wantNot(t, zeros(n), fault{api.ErrShort, "flags", 0})
		wantNot(t, ones(n), fault{api.ErrShort, "flags", 0})
	}
}

// Where bits are missing, at each place of a head, written out by hand.
func TestGetShort(t *testing.T) {
	h := H{
		Variant: head.Floats, Hint: head.NotReset, Schema: -4, Zero: 0x3ff8000000000000,
		Pos: list(-3, 2, 1, 1), Neg: list(40, 9, 1, 4096),
	}
	bits := bitsOf(h)
	at := 0
	for _, part := range []struct {
		n int
		f fault
	}{
		{8, fault{api.ErrShort, "flags", 0}},
		{9, fault{api.ErrShort, "schema", 0}},
		{72, fault{api.ErrShort, "zero", 0}},
		{5, fault{api.ErrShort, "pos", 0}},  // two
		{5, fault{api.ErrShort, "pos", 0}},  // 2
		{5, fault{api.ErrShort, "pos", 0}},  // -3
		{5, fault{api.ErrShort, "pos", 1}},  // 1
		{5, fault{api.ErrShort, "pos", 1}},  // 1
		{5, fault{api.ErrShort, "neg", 0}},  // two
		{9, fault{api.ErrShort, "neg", 0}},  // 9
		{13, fault{api.ErrShort, "neg", 0}}, // 40
		{24, fault{api.ErrShort, "neg", 1}}, // 4096
		{5, fault{api.ErrShort, "neg", 1}},  // 1
	} {
		for range part.n {
			wantNot(t, bits[:at], part.f)
			at++
		}
	}
	if at != len(bits) {
		t.Fatalf("%d bits of %d", at, len(bits))
	}
	wantNot(t, bits, fault{api.ErrSpan, "neg", 2}) // 9 and 4096 places are too many
	h.Neg[1].Len = 4087
	wantBoth(t, h)
}

// The same of other right heads, by the model: of short ones all bits are cut off one by one, of long ones some at a time.
func TestGetCut(t *testing.T) {
	for _, h := range rights() {
		bits := bitsOf(h)
		step := 1 + len(bits)/40
		for n := 0; n < len(bits); n += step {
			_, _, f := modelGet(bits[:n])
			if f.e != api.ErrShort {
				t.Fatalf("%d of %s: %v", n, cut(bits), f)
			}
			wantNot(t, bits[:n], f)
		}
	}
}

func TestGetSchema(t *testing.T) {
	for v := int64(-300); v <= 300; v++ {
		bits := zeros(8) + bitsS(v)
		if v < -4 || v > 8 {
			wantNot(t, bits, fault{api.ErrSchema, "schema", 0})
			wantNot(t, bits+zeros(10), fault{api.ErrSchema, "schema", 0})
			continue
		}
		wantNot(t, bits, fault{api.ErrShort, "zero", 0})
		wantGet(t, bits+zeros(10), H{Schema: int(v)})
	}
	for _, v := range []int64{1 << 31, 1 << 32, 1<<32 + 1, 1<<56 + 1, -1 << 32, -1<<32 - 1, math.MinInt64, math.MinInt64 + 1, math.MaxInt64} {
		wantNot(t, zeros(8)+bitsS(v), fault{api.ErrSchema, "schema", 0})
	}
}

// forms: bits of numbers that fewer bits would have said, of each group behind the first.
func forms() []string {
	var l []string
	for _, g := range groups()[1:] {
		l = append(l, g.lead+zeros(g.bits), g.lead+zeros(g.bits-1)+"1")
	}
	return append(l[:1], l[2:]...) // 10 001 is 1
}

func TestGetForm(t *testing.T) {
	flags, schema, zero := zeros(8), "0", zeros(8)
	for _, form := range forms() {
		wantNot(t, flags+form, fault{api.ErrForm, "schema", 0})
		for _, place := range []string{"pos", "neg"} {
			lead := flags + schema + zero
			if place == "neg" {
				lead += side(1, of(sp(5, 2)))
			}
			wantNot(t, lead+form, fault{api.ErrForm, place, 0})
			wantNot(t, lead+side(1)+form, fault{api.ErrForm, place, 0})
			wantNot(t, lead+side(1)+bitsU(1)+form, fault{api.ErrForm, place, 0})
			wantNot(t, lead+side(3, of(sp(5, 2)))+form, fault{api.ErrForm, place, 1})
			wantNot(t, lead+side(3, of(sp(5, 2)))+bitsU(1)+form, fault{api.ErrForm, place, 1})
			wantNot(t, lead+side(3, of(sp(5, 2)), of(sp(1, 1)))+form, fault{api.ErrForm, place, 2})
			wantNot(t, lead+side(3, of(sp(5, 2)), of(sp(1, 1)))+bitsU(1)+form, fault{api.ErrForm, place, 2})
		}
	}
}

func TestGetZero(t *testing.T) {
	lead := zeros(9)
	for b := range 255 {
		bits := lead + fmt.Sprintf("%08b", b)
		wantNot(t, bits, fault{api.ErrShort, "pos", 0})
		h := H{}
		if b > 0 {
			h.Zero = math.Float64bits(math.Ldexp(1, b-244))
		}
		wantGet(t, bits+"00", h)
	}
	for _, v := range nozeroes() {
		wantNot(t, lead+ones(8)+fmt.Sprintf("%064b", v), fault{api.ErrRange, "zero", 0})
		wantNot(t, lead+ones(8)+fmt.Sprintf("%064b", v)+"00", fault{api.ErrRange, "zero", 0})
	}
	for v := range powers {
		wantNot(t, lead+ones(8)+fmt.Sprintf("%064b", v)+"00", fault{api.ErrForm, "zero", 0})
	}
	wantNot(t, lead+ones(8)+zeros(64)+"00", fault{api.ErrForm, "zero", 0})
	for n := range 72 {
		if n < 8 {
			wantNot(t, lead+zeros(n), fault{api.ErrShort, "zero", 0})
		}
		wantNot(t, lead+ones(n), fault{api.ErrShort, "zero", 0})
	}
}

// Too many spans, whatever stands behind, and whether anything does.
func TestGetMany(t *testing.T) {
	for _, n := range []uint64{1025, 1026, 4095, 4096, 4097, 1 << 20, 1 << 31, 1<<32 + 1, 1<<32 + 1024, 1 << 56, 1<<56 + 1, 1 << 63, 1<<63 + 1, math.MaxUint64} {
		for _, behind := range []string{"", "0", ones(100), zeros(20), forms()[0]} {
			wantNot(t, ahead()+bitsU(n)+behind, fault{api.ErrMany, "pos", 0})
			wantNot(t, ahead()+"0"+bitsU(n)+behind, fault{api.ErrMany, "neg", 0})
			wantNot(t, ahead()+bitsSide(plain().Pos)+bitsU(n)+behind, fault{api.ErrMany, "neg", 0})
		}
	}
	wantNot(t, ahead()+bitsU(1024), fault{api.ErrShort, "pos", 0})
	for _, n := range []int{1025, 2000} {
		wantNot(t, ahead()+bitsSide(spans(n, 0, sp(1, 1)))+"0", fault{api.ErrMany, "pos", 0})
		wantNot(t, ahead()+"0"+bitsSide(spans(n, 0, sp(1, 1))), fault{api.ErrMany, "neg", 0})
	}
}

// A Len that is too great is told at once, whatever stands behind it, and of how many spans are ahead.
func TestGetLen(t *testing.T) {
	for _, n := range []uint64{4097, 4098, 1 << 18, 1 << 25, 1 << 31, 1 << 32, 1<<32 + 1, 1<<56 - 1, 1 << 56, 1 << 63, 1<<63 + 1, math.MaxUint64} {
		for _, behind := range []string{"", "1", "0", forms()[1], bitsS(5) + "0", ones(100)} {
			for k := range 4 {
				l := bitsU(uint64(k + 1))
				for range k {
					l += of(sp(2, 3))
				}
				wantNot(t, ahead()+l+bitsU(n)+behind, fault{api.ErrSpan, "pos", k})
				wantNot(t, ahead()+"0"+l+bitsU(n)+behind, fault{api.ErrSpan, "neg", k})
			}
		}
	}
	wantNot(t, ahead()+side(1)+bitsU(4096), fault{api.ErrShort, "pos", 0})
}

// Lists that aren't right, or not canonical, behind all of their spans: the number is how many there are.
func TestGetSides(t *testing.T) {
	for _, c := range wrongs() {
		if slices.ContainsFunc(c.l, func(s S) bool { return s.Len < 0 || s.Len > 4096 }) || len(c.l) > 1024 {
			continue // no bits say so, or another error does
		}
		for _, behind := range []string{"", "0", ones(80)} {
			wantNot(t, ahead()+bitsSide(c.l)+behind, fault{c.e, "pos", len(c.l)})
			wantNot(t, ahead()+"0"+bitsSide(c.l)+behind, fault{c.e, "neg", len(c.l)})
			wantNot(t, ahead()+bitsSide(plain().Pos)+bitsSide(c.l)+behind, fault{c.e, "neg", len(c.l)})
		}
	}
}

// Offsets beyond the limits, as far as there are numbers, alone and where sums would go round.
func TestGetOffset(t *testing.T) {
	for _, v := range []int64{far + 1, -far - 1, 2*far + 1, 1 << 31, 1 << 32, 1<<32 + 1, -1 << 32, 1 << 55, 1 << 56, -1 << 56, 1 << 62, math.MaxInt64, math.MaxInt64 - 1, math.MinInt64, math.MinInt64 + 1} {
		wantNot(t, ahead()+side(1, bitsU(1), bitsS(v))+"0", fault{api.ErrSpan, "pos", 1})
		wantNot(t, ahead()+"0"+side(1, bitsU(1), bitsS(v)), fault{api.ErrSpan, "neg", 1})
		wantNot(t, ahead()+side(2, of(sp(0, 1)), bitsU(1), bitsS(v))+"0", fault{api.ErrSpan, "pos", 2})
		wantNot(t, ahead()+side(3, bitsU(1), bitsS(v), bitsU(1), bitsS(v), bitsU(1), bitsS(v))+"0", fault{api.ErrSpan, "pos", 3})
	}
	wantNot(t, ahead()+side(2, of(sp(0, 1)), of(sp(-1, 1)))+"0", fault{api.ErrSpan, "pos", 2})
}

// Each error ahead of the later ones.
func TestGetOrder(t *testing.T) {
	badSchema, badZero := bitsS(9), ones(8)+fmt.Sprintf("%064b", uint64(infinite))
	bad := side(1, of(sp(0, 0)))  // not canonical
	off := of(sp(far+1, 1))       // not right
	long := bitsU(4097)           // too long
	form := "10 000"              // 0, in more bits than it has
	many := bitsU(1025)           // too many
	flags := "00000001"           // not noughts
	start := zeros(8)             // flags
	all := start + "0" + zeros(8) // and schema, and threshold
	for _, c := range []struct {
		bits string
		f    fault
	}{
		{flags, fault{api.ErrForm, "flags", 0}},
		{flags + badSchema, fault{api.ErrForm, "flags", 0}},
		{flags + "0" + badZero, fault{api.ErrForm, "flags", 0}},
		{start + badSchema + badZero, fault{api.ErrSchema, "schema", 0}},
		{start + form + badZero, fault{api.ErrForm, "schema", 0}},
		{start + badSchema + "0", fault{api.ErrSchema, "schema", 0}},
		{start + "0" + badZero + many, fault{api.ErrRange, "zero", 0}},
		{start + "0" + badZero, fault{api.ErrRange, "zero", 0}},
		{all + many + bad, fault{api.ErrMany, "pos", 0}},
		{all + bad + many, fault{api.ErrLayout, "pos", 1}},
		{all + bad + bad, fault{api.ErrLayout, "pos", 1}},
		{all + bad, fault{api.ErrLayout, "pos", 1}},
		{all + bad + form, fault{api.ErrLayout, "pos", 1}},
		{all + side(1, off) + bad, fault{api.ErrSpan, "pos", 1}},
		{all + side(1, long) + form, fault{api.ErrSpan, "pos", 0}},
		// one that isn't right is told behind all that are read
		{all + side(2, off), fault{api.ErrShort, "pos", 1}},
		{all + side(2, off, bitsU(1)), fault{api.ErrShort, "pos", 1}},
		{all + side(2, off, form), fault{api.ErrForm, "pos", 1}},
		{all + side(2, off, bitsU(1), form), fault{api.ErrForm, "pos", 1}},
		{all + side(2, off, long), fault{api.ErrSpan, "pos", 1}},
		{all + side(2, off, of(sp(1, 1))), fault{api.ErrSpan, "pos", 2}},
		{all + side(3, of(sp(0, 4096)), of(sp(1, 4096)), of(sp(1, 4096))), fault{api.ErrSpan, "pos", 3}},
		{all + side(2, of(sp(0, 0)), form), fault{api.ErrForm, "pos", 1}},
		{all + side(2, of(sp(0, 0))), fault{api.ErrShort, "pos", 1}},
		{all + side(2, of(sp(0, 0)), off), fault{api.ErrSpan, "pos", 2}},
		{all + side(2, of(sp(0, 0)), of(sp(-1, 1))), fault{api.ErrSpan, "pos", 2}},
		{all + "0" + side(2, of(sp(0, 0))), fault{api.ErrShort, "neg", 1}},
		{all + "0" + side(2, of(sp(0, 0)), off), fault{api.ErrSpan, "neg", 2}},
		{all + "0" + bad, fault{api.ErrLayout, "neg", 1}},
	} {
		wantNot(t, join(c.bits), c.f)
	}
}

// Lists that are told share no memory with each other, nor with those of another answer, spare room neither.
func TestGetMemory(t *testing.T) {
	for _, l := range sides() {
		h := H{Pos: l, Neg: l}
		bits := bitsOf(h)
		a, _ := head.Get(reader(t, bits))
		b, _ := head.Get(reader(t, bits))
		lists := []List{a.Pos, a.Neg, b.Pos, b.Neg}
		for i, own := range lists {
			own = own[:cap(own)]
			for k := range own {
				own[k] = sp(1000+i, 2000+i)
			}
		}
		for i, own := range lists {
			for _, s := range own[:cap(own)] {
				if s != (sp(1000+i, 2000+i)) {
					t.Fatalf("list %d of %d spans: %v was changed with another one", i, len(l), s)
				}
			}
		}
		wantGet(t, bits, h)
	}
}

// A reader is read from where it stands, and one that fell short tells that nothing is left.
func TestGetWhere(t *testing.T) {
	for _, lead := range leads() {
		r := reader(t, lead+bitsOf(plain())+bitsOf(H{}))
		if lead != "" {
			r.Get(len(lead))
		}
		for _, want := range []H{plain(), {}} {
			if h, err := head.Get(r); err != nil || !sameHead(h, want) {
				t.Errorf("Get: %s, %v; want %s", show(h), err, show(want))
			}
		}
		h, err := head.Get(r)
		wantErr(t, "Get", err, fault{api.ErrShort, "flags", 0})
		if !sameHead(h, H{}) {
			t.Errorf("Get: %s beside an error", show(h))
		}
	}
	r := reader(t, zeros(19))
	r.Get(64)
	_, err := head.Get(r)
	wantErr(t, "Get", err, fault{api.ErrShort, "flags", 0})
}

// wantModel: bits are told as the model tells them, and what is taken is what Put puts.
func wantModel(t *testing.T, bits string) bool {
	t.Helper()
	h, used, f := modelGet(bits)
	if f != none {
		wantNot(t, bits, f)
		return false
	}
	r := reader(t, bits)
	got, err := head.Get(r)
	if err != nil || !sameHead(got, h) {
		t.Errorf("Get of %s: %s, %v; want %s", cut(bits), show(got), err, show(h))
	}
	wantPos(t, r, used, len(bits)-used)
	w := writer(t, "")
	wantErr(t, "Put of "+show(got), head.Put(w, got), none)
	wantWritten(t, w, bits[:used])
	if head.Len(got) != used {
		t.Errorf("Len of %s: %d; want %d", show(got), head.Len(got), used)
	}
	return true
}

// anySpan: one of any kind, mostly small.
func anySpan(x *rand.Rand) S {
	switch x.Intn(12) {
	case 0:
		return sp(x.Intn(5)-2, x.Intn(4))
	case 1:
		return sp(x.Intn(2*far+3)-far-1, 1+x.Intn(3))
	case 2:
		return sp(x.Intn(3), x.Intn(4100))
	case 3:
		return sp(int(x.Uint64()>>x.Intn(64)), x.Intn(10))
	}
	return sp(1+x.Intn(9), 1+x.Intn(9))
}

// anyHead: one that may be right or not.
func anyHead(x *rand.Rand) H {
	h := H{Variant: x.Intn(2), Hint: x.Intn(4), Schema: x.Intn(13) - 4}
	switch x.Intn(10) {
	case 0:
		h.Variant = x.Intn(5) - 2
	case 1:
		h.Hint = x.Intn(8) - 2
	case 2:
		h.Schema = x.Intn(40) - 20
	case 3:
		h.Zero = x.Uint64()
	case 4, 5:
		h.Zero = math.Float64bits(math.Ldexp(1, x.Intn(300)-270))
	case 6:
		h.Zero = x.Uint64() >> 1
	}
	for range x.Intn(5) {
		h.Pos = append(h.Pos, anySpan(x))
	}
	for range x.Intn(5) {
		h.Neg = append(h.Neg, anySpan(x))
	}
	return h
}

func TestHeadsModel(t *testing.T) {
	x := rand.New(rand.NewSource(14))
	right := 0
	for range 20000 {
		h := anyHead(x)
		f := modelCheck(h)
		wantCheck(t, h, f)
		if f != none {
			wantRefused(t, h, f)
			continue
		}
		right++
		wantPut(t, h, bitsOf(h))
		wantModel(t, bitsOf(h))
	}
	if right < 2000 {
		t.Errorf("only %d heads were right", right)
	}
}

// Bits of right heads, of which some are turned, left out, put in, or missing.
func TestGetTurned(t *testing.T) {
	x := rand.New(rand.NewSource(41))
	taken, not := 0, 0
	for range 30000 {
		h := anyHead(x)
		if modelCheck(h) != none {
			continue
		}
		bits := bitsOf(h)
		for range 1 + x.Intn(3) {
			at := x.Intn(len(bits))
			switch x.Intn(5) {
			case 0:
				bits = bits[:at] + bits[at+1:]
			case 1:
				bits = bits[:at] + string('0'+rune(x.Intn(2))) + bits[at:]
			case 2:
				bits += fmt.Sprintf("%b", x.Intn(1000))
			default:
				bits = bits[:at] + string('0'+'1'-rune(bits[at])) + bits[at+1:]
			}
		}
		if wantModel(t, bits) {
			taken++
		} else {
			not++
		}
	}
	if taken < 100 || not < 1000 {
		t.Errorf("only %d were taken and %d weren't", taken, not)
	}
}

// All bits of up to eleven behind right ones, so that sides are cut and told in all small ways.
func TestGetAllShort(t *testing.T) {
	for _, lead := range []string{zeros(8), zeros(9), ahead(), ahead() + "0", ahead() + side(1), ahead() + side(2, of(sp(3, 2))), ahead() + side(1, bitsU(1))} {
		for n := range 12 {
			for v := range 1 << n {
				bits := lead
				if n > 0 {
					bits += fmt.Sprintf("%0*b", n, v)
				}
				wantModel(t, bits)
			}
		}
	}
}

func TestGetRandom(t *testing.T) {
	x := rand.New(rand.NewSource(4))
	for range 20000 {
		bits := ""
		for range x.Intn(200) {
			bits += string('0' + rune(x.Intn(2)))
		}
		wantModel(t, bits)
		wantModel(t, zeros(8)+bits)
		wantModel(t, ahead()+bits)
	}
}
