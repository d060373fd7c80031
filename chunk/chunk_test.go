package chunk_test

import (
	"bytes"
	"errors"
	"fmt"
	"math"
	"math/big"
	"math/rand"
	"reflect"
	"slices"
	"strings"
	"testing"

	"tidepole/api"
	"tidepole/chunk"
	"tidepole/fail"
	"tidepole/head"
	"tidepole/hist"
	"tidepole/pairs"
	"tidepole/span"
	"tidepole/stream"
)

// Short names for what the tests have much of: heads, histograms, samples, spans and lists of them.
type (
	Head   = head.Head
	Hist   = hist.Hist
	Sample = chunk.Sample
	Span   = span.Span
	List   = []span.Span
)

const far = api.MaxOffset

// The bits of some floats: 1, 1.5, the infinite ones, some that are no numbers, and a nought with a sign.
const (
	one      = 0x3ff0000000000000
	oneHalf  = 0x3ff8000000000000
	infinite = 0x7ff0000000000000
	below    = 0xfff0000000000000
	nan      = 0x7ff8000000000000
	minus0   = 1 << 63
)

// group: a line of layer 4's table.
type group struct {
	lead       string
	bits       int
	fromS, toS int64
	toU        uint64
}

func groups() []group {
	return []group{
		{"0", 0, 0, 0, 0},
		{"10", 3, -3, 4, 7},
		{"110", 6, -31, 32, 63},
		{"1110", 9, -255, 256, 511},
		{"11110", 12, -2047, 2048, 1<<12 - 1},
		{"111110", 18, -131071, 131072, 1<<18 - 1},
		{"1111110", 25, -16777215, 1 << 24, 1<<25 - 1},
		{"11111110", 56, -1<<55 + 1, 1 << 55, 1<<56 - 1},
		{"11111111", 64, math.MinInt64, math.MaxInt64, math.MaxUint64},
	}
}

// power: 2^n.
func power(n int) *big.Int { return new(big.Int).Lsh(big.NewInt(1), uint(n)) }

// low: the lowest n bits, from the highest one on; those of a negative number are from 2^n down.
func low(v *big.Int, n int) string {
	if n == 0 {
		return ""
	}
	v = new(big.Int).Mod(v, power(n))
	return fmt.Sprintf("%0*s", n, v.Text(2))
}

func bitsU(v *big.Int) string {
	for _, g := range groups() {
		if v.Cmp(new(big.Int).SetUint64(g.toU)) <= 0 {
			return g.lead + low(v, g.bits)
		}
	}
	panic("too great")
}

func bitsS(v *big.Int) string {
	for _, g := range groups() {
		if v.Cmp(big.NewInt(g.fromS)) >= 0 && v.Cmp(big.NewInt(g.toS)) <= 0 {
			return g.lead + low(v, g.bits)
		}
	}
	panic("too great")
}

// column: a row of numbers, whose next one's bits are told.
type column interface {
	next(v *big.Int) string
	add(v *big.Int)
}

// whole: layer 13's row, in numbers of any size, which are made ones of 64 bits only when they are put.
type whole struct {
	unsigned bool
	l        []*big.Int
}

func (x *whole) next(v *big.Int) string {
	n := len(x.l)
	switch {
	case n == 0 && x.unsigned:
		return bitsU(v)
	case n == 0:
		return bitsS(v)
	}
	change := new(big.Int).Sub(v, x.l[n-1])
	if n > 1 {
		change.Sub(change, x.l[n-1])
		change.Add(change, x.l[n-2])
	}
	change.Mod(change, power(64))
	if change.Cmp(power(63)) >= 0 {
		change.Sub(change, power(64))
	}
	return bitsS(change)
}

// add: only the last two are looked at again.
func (x *whole) add(v *big.Int) {
	x.l = append(x.l, v)
	if len(x.l) > 2 {
		x.l = slices.Clone(x.l[1:])
	}
}

// floats: layer 5's row, in texts of noughts and ones.
type floats struct {
	last        string
	ahead, bits int
}

// differs: where a value differs from the last one, there are ones.
func (x *floats) differs(v *big.Int) string {
	d := []byte(zeros(64))
	for i, c := range low(v, 64) {
		if byte(c) != x.last[i] {
			d[i] = '1'
		}
	}
	return string(d)
}

// windowFor: where a value may differ, and whether that is told anew.
func (x *floats) windowFor(d string) (ahead, bits int, anew bool) {
	first, last := strings.Index(d, "1"), strings.LastIndex(d, "1")
	if x.bits > 0 && first >= x.ahead && last < x.ahead+x.bits {
		return x.ahead, x.bits, false
	}
	ahead = min(first, 31)
	return ahead, last + 1 - ahead, true
}

func (x *floats) next(v *big.Int) string {
	if x.last == "" {
		return low(v, 64)
	}
	d := x.differs(v)
	if !strings.Contains(d, "1") {
		return "0"
	}
	ahead, bits, anew := x.windowFor(d)
	if anew {
		return "11" + fmt.Sprintf("%05b%06b", ahead, bits%64) + d[ahead:ahead+bits]
	}
	return "10" + d[ahead:ahead+bits]
}

func (x *floats) add(v *big.Int) {
	if x.last != "" {
		if d := x.differs(v); strings.Contains(d, "1") {
			x.ahead, x.bits, _ = x.windowFor(d)
		}
	}
	x.last = low(v, 64)
}

// model: a chunk by the chapter's words, whose bits behind the first 16 are written as noughts and ones.
type model struct {
	h    Head
	l    []Sample
	cols []column
	text strings.Builder
}

// headBits: layer 14's, as noughts and ones.
func headBits(h Head) string {
	w, _ := stream.NewWriter(nil, 0)
	if err := head.Put(w, h); err != nil {
		panic(err)
	}
	r, _ := stream.NewReader(w.Bytes(), w.Len())
	var bits strings.Builder
	for r.Left() > 0 {
		bits.WriteByte('0' + byte(r.Get(1)))
	}
	return bits.String()
}

// placesOf: those of a right list.
func placesOf(l List) []int {
	var places []int
	at := 0
	for _, s := range l {
		at += s.Offset
		for range s.Len {
			places = append(places, at)
			at++
		}
	}
	return places
}

func newModel(h Head) *model {
	m := &model{h: own(h)}
	m.cols = []column{&whole{}, &whole{unsigned: true}, &whole{unsigned: true}, &floats{}}
	for range len(placesOf(h.Pos)) + len(placesOf(h.Neg)) {
		m.cols = append(m.cols, &whole{})
	}
	m.text.WriteString(headBits(h))
	return m
}

// numbers: a sample's, in the order of its bits.
func numbers(s Sample) []*big.Int {
	l := []*big.Int{big.NewInt(s.T)}
	for _, v := range []uint64{s.H.Count, s.H.ZeroCount, s.H.Sum} {
		l = append(l, new(big.Int).SetUint64(v))
	}
	for _, v := range append(slices.Clone(s.H.PosDeltas), s.H.NegDeltas...) {
		l = append(l, big.NewInt(v))
	}
	return l
}

// parts: a sample's bits, column by column.
func (m *model) parts(s Sample) []string {
	var parts []string
	for i, v := range numbers(s) {
		parts = append(parts, m.cols[i].next(v))
	}
	return parts
}

func (m *model) bits() string { return fmt.Sprintf("%016b", len(m.l)) + m.text.String() }

func (m *model) len() int { return 16 + m.text.Len() }

func (m *model) cost(s Sample) int { return len(strings.Join(m.parts(s), "")) }

func (m *model) add(s Sample) {
	for _, p := range m.parts(s) {
		m.text.WriteString(p)
	}
	for i, v := range numbers(s) {
		m.cols[i].add(v)
	}
	s.H = ownHist(s.H)
	s.H.Pos, s.H.Neg = slices.Clone(m.h.Pos), slices.Clone(m.h.Neg)
	m.l = append(m.l, s)
}

// refuses: what is wrong with a sample first.
func (m *model) refuses(s Sample) fault {
	n := len(m.l)
	switch e := hist.Check(s.H); {
	case e != api.OK:
		return fault{e, "hist", n}
	case s.H.Schema != m.h.Schema:
		return fault{api.ErrSchema, "schema", n}
	case s.H.Zero != m.h.Zero:
		return fault{api.ErrRange, "zero", n}
	case !slices.Equal(placesOf(s.H.Pos), placesOf(m.h.Pos)):
		return fault{api.ErrLayout, "pos", n}
	case !slices.Equal(placesOf(s.H.Neg), placesOf(m.h.Neg)):
		return fault{api.ErrLayout, "neg", n}
	case n > 0 && s.T <= m.l[n-1].T:
		return fault{api.ErrTime, "time", n}
	case n >= 1024:
		return fault{api.ErrFull, "samples", n}
	case m.len()+m.cost(s) > 1<<24:
		return fault{api.ErrFull, "bits", n}
	}
	return none
}

// fault: an error at a place.
type fault struct {
	e     api.Errno
	place string
	at    int
}

var none = fault{}

func (f fault) err() error { return fail.Wrap(fail.New(f.e), f.place, f.at) }

// join: bits without the blanks that are for the eye.
func join(bits string) string { return strings.ReplaceAll(bits, " ", "") }

// zeros: so many bits.
func zeros(n int) string { return strings.Repeat("0", n) }

// pack: bits in bytes.
func pack(bits string) ([]byte, int) {
	bits = join(bits)
	b := make([]byte, (len(bits)+7)/8)
	for i := range len(bits) {
		if bits[i] == '1' {
			b[i/8] |= 1 << (7 - i%8)
		}
	}
	return b, len(bits)
}

// own: a head with lists of its own.
func own(h Head) Head {
	h.Pos, h.Neg = slices.Clone(h.Pos), slices.Clone(h.Neg)
	return h
}

// ownHist: a histogram with lists of its own.
func ownHist(h Hist) Hist {
	h.Pos, h.Neg = slices.Clone(h.Pos), slices.Clone(h.Neg)
	h.PosDeltas, h.NegDeltas = slices.Clone(h.PosDeltas), slices.Clone(h.NegDeltas)
	return h
}

// sp: a span.
func sp(offset, n int) Span { return Span{Offset: offset, Len: n} }

// list: spans, each by its Offset and its Len.
func list(l ...int) List {
	var spans List
	for i := 0; i < len(l); i += 2 {
		spans = append(spans, sp(l[i], l[i+1]))
	}
	return spans
}

// spans: n spans, all alike but for where the first one begins.
func spans(n, first int, s Span) List {
	l := slices.Repeat(List{s}, n)
	if n > 0 {
		l[0].Offset = first
	}
	return l
}

// cut: cut short for the eye.
func cut(s string) string {
	if len(s) <= 300 {
		return s
	}
	return fmt.Sprintf("%s.. (%d)", s[:300], len(s))
}

// show: anything, cut short for the eye.
func show(v any) string { return cut(fmt.Sprintf("%+v", v)) }

// same: is all the same? Nil and empty lists are one.
func same(a, b Sample) bool {
	return a.T == b.T && a.H.Schema == b.H.Schema && a.H.Zero == b.H.Zero && a.H.ZeroCount == b.H.ZeroCount &&
		a.H.Count == b.H.Count && a.H.Sum == b.H.Sum && slices.Equal(a.H.Pos, b.H.Pos) && slices.Equal(a.H.Neg, b.H.Neg) &&
		slices.Equal(a.H.PosDeltas, b.H.PosDeltas) && slices.Equal(a.H.NegDeltas, b.H.NegDeltas)
}

// wantErr: an error is just layer 2's Wrap of its New, with code, place and number; or it is nil.
func wantErr(t *testing.T, what string, err error, f fault) {
	t.Helper()
	if f == none {
		if err != nil {
			t.Errorf("%s: %v; want nil", cut(what), err)
		}
		return
	}
	if !reflect.DeepEqual(err, f.err()) {
		t.Errorf("%s: %v; want %v", cut(what), err, f.err())
		return
	}
	var e *fail.Error
	if !errors.As(err, &e) || e.Code != f.e || e.Place != f.place || e.At != f.at || fail.Code(e.Err) != f.e || fail.Depth(err) != 2 {
		t.Errorf("%s: %#v; want %v", cut(what), err, f)
	}
	if want := fmt.Sprintf("%s %d: %d", f.place, f.at, f.e); fail.Text(err) != want {
		t.Errorf("%s: %s; want %s", cut(what), fail.Text(err), want)
	}
}

// begin: a chunk and its model.
func begin(t *testing.T, h Head) (*chunk.Chunk, *model) {
	t.Helper()
	c, err := chunk.New(h)
	if err != nil || c == nil {
		t.Fatalf("New of %s: %v, %v", show(h), c, err)
	}
	return c, newModel(h)
}

// wantFew: all that a chunk tells but its bytes is as its model has it.
func wantFew(t *testing.T, c *chunk.Chunk, m *model) {
	t.Helper()
	if got := c.Head(); !head.Equal(got, m.h) {
		t.Errorf("Head: %s; want %s", show(got), show(m.h))
	}
	if c.Len() != len(m.l) || c.Bits() != m.len() {
		t.Errorf("%d samples, %d bits; want %d, %d", c.Len(), c.Bits(), len(m.l), m.len())
	}
	want, has := Sample{}, len(m.l) > 0
	if has {
		want = m.l[len(m.l)-1]
	}
	if got, ok := c.Last(); ok != has || !same(got, want) {
		t.Errorf("Last: %s, %v; want %s, %v", show(got), ok, show(want), has)
	}
}

// wantAll: all that a chunk tells is as its model has it.
func wantAll(t *testing.T, c *chunk.Chunk, m *model) {
	t.Helper()
	wantFew(t, c, m)
	if want, _ := pack(m.bits()); !bytes.Equal(c.Bytes(), want) {
		t.Errorf("Bytes: %s; want %s", cut(fmt.Sprintf("%x", c.Bytes())), cut(fmt.Sprintf("%x", want)))
	}
}

// wantCost: a sample costs as many bits as the model says, and telling it changes nothing.
func wantCost(t *testing.T, c *chunk.Chunk, m *model, s Sample) {
	t.Helper()
	n, err := c.Cost(s)
	wantErr(t, "Cost of "+show(s), err, none)
	if want := m.cost(s); n != want {
		t.Errorf("Cost of %s: %d; want %d", show(s), n, want)
	}
	wantFew(t, c, m)
}

// take: a sample is appended, at its Cost, and is the last one then.
func take(t *testing.T, c *chunk.Chunk, m *model, s Sample) {
	t.Helper()
	wantCost(t, c, m, s)
	n, _ := c.Cost(s)
	was := c.Bits()
	wantErr(t, "Append of "+show(s), c.Append(s), none)
	if c.Bits()-was != n {
		t.Errorf("Append of %s: %d bits; Cost said %d", show(s), c.Bits()-was, n)
	}
	m.add(s)
	wantFew(t, c, m)
}

// wantRefused: Cost and Append refuse a sample so, and nothing is changed.
func wantRefused(t *testing.T, c *chunk.Chunk, m *model, s Sample, f fault) {
	t.Helper()
	n, err := c.Cost(s)
	wantErr(t, "Cost of "+show(s), err, f)
	if n != 0 {
		t.Errorf("Cost of %s: %d beside an error", show(s), n)
	}
	wantErr(t, "Append of "+show(s), c.Append(s), f)
	wantAll(t, c, m)
}

// shape: a head in which all but the variant is something, with the places 3, 4 and 6, and 0.
func shape() Head {
	return Head{Hint: head.Reset, Schema: 2, Zero: math.Float64bits(0.5), Pos: list(3, 2, 1, 1), Neg: list(0, 1)}
}

// total: what counts come to.
func total(counts ...int64) uint64 {
	n := uint64(0)
	for _, v := range counts {
		n += uint64(v)
	}
	return n
}

// deltas: counts as differences.
func deltas(counts []int64) []int64 {
	var l []int64
	last := int64(0)
	for _, v := range counts {
		l = append(l, v-last)
		last = v
	}
	return l
}

// sample: one of a head's shape, with these counts on both sides.
func sample(h Head, t int64, zero uint64, sum uint64, pos, neg []int64) Sample {
	return Sample{T: t, H: Hist{
		Schema: h.Schema, Zero: h.Zero, Sum: sum, ZeroCount: zero, Count: zero + total(pos...) + total(neg...),
		Pos: slices.Clone(h.Pos), PosDeltas: deltas(pos), Neg: slices.Clone(h.Neg), NegDeltas: deltas(neg),
	}}
}

// plain: a sample of the shape above.
func plain(t int64) Sample { return sample(shape(), t, 3, one, []int64{2, 0, 1}, []int64{4}) }

// anyOf: a sample of a head's shape that has something of x in each column.
func anyOf(x *rand.Rand, h Head, t int64) Sample {
	counts := func(l List) []int64 {
		var n []int64
		for range placesOf(l) {
			n = append(n, x.Int63n(1<<x.Intn(40)))
		}
		return n
	}
	sums := []uint64{0, one, oneHalf, infinite, below, nan, minus0, x.Uint64()}
	return sample(h, t, uint64(x.Intn(50)), sums[x.Intn(len(sums))], counts(h.Pos), counts(h.Neg))
}

// sides: right and canonical lists: none, one, some, the most there may be, and those at the limits.
func sides() []List {
	return []List{
		nil,
		{},
		list(0, 1),
		list(-1, 1),
		list(3, 2, 1, 1),
		list(-3, 2, 1, 1, 7, 60),
		list(far, 1),
		list(-far, 1),
		list(-far, 1, 2*far-1, 1),
		list(0, 4096),
		list(-far, 4095, 2*far-4095, 1),
		spans(1024, 0, sp(1, 1)),
		spans(1024, -far, sp(1, 4)),
	}
}

// heads: right ones of Ints.
func heads() []Head {
	var l []Head
	for hint := head.Unknown; hint <= head.Gauge; hint++ {
		for schema := api.MinSchema; schema <= api.MaxSchema; schema++ {
			l = append(l, Head{Hint: hint, Schema: schema, Zero: uint64(hint)})
		}
	}
	for _, v := range []uint64{1, one, math.Float64bits(0.1), infinite - 1} {
		h := shape()
		h.Zero = v
		l = append(l, h, Head{Zero: v})
	}
	for _, s := range sides() {
		h, g := shape(), shape()
		h.Pos, g.Neg = s, s
		l = append(l, h, g, Head{Pos: s, Neg: s})
	}
	return l
}

// P15.1

func TestNew(t *testing.T) {
	for _, h := range heads() {
		c, m := begin(t, h)
		wantAll(t, c, m)
		if want := 16 + head.Len(h); c.Len() != 0 || c.Bits() != want || len(c.Bytes()) != (want+7)/8 {
			t.Errorf("New of %s: %d samples, %d bits, %d bytes; want 0, %d", show(h), c.Len(), c.Bits(), len(c.Bytes()), want)
		}
		if s, ok := c.Last(); ok || !same(s, Sample{}) {
			t.Errorf("New of %s: Last: %s, %v", show(h), show(s), ok)
		}
	}
}

// turn: a change of a head, and what New tells of the changed one.
type turn struct {
	do func(h *Head)
	f  fault
}

// turns: of each error of layer 14's Check one change or more, in the order in which they are told; the variant Floats is last.
func turns() [][]turn {
	all := make([][]turn, 7)
	add := func(n int, e api.Errno, place string, do func(h *Head)) {
		all[n] = append(all[n], turn{do, fault{e, place, 0}})
	}
	for _, v := range []int{-1, 2, 3, 256, math.MinInt, math.MaxInt} {
		add(0, api.ErrVariant, "variant", func(h *Head) { h.Variant = v })
	}
	for _, v := range []int{-1, 4, 5, 256, math.MinInt, math.MaxInt} {
		add(1, api.ErrHint, "hint", func(h *Head) { h.Hint = v })
	}
	for _, v := range []int{-5, 9, 256, math.MinInt, math.MaxInt} {
		add(2, api.ErrSchema, "schema", func(h *Head) { h.Schema = v })
	}
	for _, v := range []uint64{infinite, infinite + 1, nan, minus0, math.MaxUint64} {
		add(3, api.ErrRange, "zero", func(h *Head) { h.Zero = v })
	}
	for _, c := range []struct {
		l List
		e api.Errno
	}{
		{spans(1025, 0, sp(1, 1)), api.ErrMany},
		{spans(1025, far+1, sp(-1, -1)), api.ErrMany},
		{list(0, -1), api.ErrSpan},
		{list(0, 4097), api.ErrSpan},
		{list(far+1, 1), api.ErrSpan},
		{list(-far-1, 1), api.ErrSpan},
		{list(far, 2), api.ErrSpan},
		{list(0, 1, -1, 1), api.ErrSpan},
		{list(0, 1, math.MaxInt, 1), api.ErrSpan},
		{list(math.MinInt, math.MinInt), api.ErrSpan},
		{list(0, 2048, 1, 2049), api.ErrSpan},
		{list(0, 0), api.ErrLayout},
		{list(0, 1, 0, 1), api.ErrLayout},
		{list(0, 1, 1, 0), api.ErrLayout},
		{list(3, 2, 1, 0, 5, 1), api.ErrLayout},
	} {
		add(4, c.e, "pos", func(h *Head) { h.Pos = c.l })
		add(5, c.e, "neg", func(h *Head) { h.Neg = c.l })
	}
	add(6, api.ErrVariant, "variant", func(h *Head) { h.Variant = head.Floats })
	return all
}

func wantNotNew(t *testing.T, h Head, f fault) {
	t.Helper()
	c, err := chunk.New(h)
	wantErr(t, "New of "+show(h), err, f)
	if c != nil {
		t.Errorf("New of %s: a chunk beside an error", show(h))
	}
}

func TestNewWrong(t *testing.T) {
	for _, l := range turns() {
		for _, x := range l {
			h, g := Head{}, shape()
			x.do(&h)
			x.do(&g)
			wantNotNew(t, h, x.f)
			wantNotNew(t, g, x.f)
		}
	}
}

// Each error is told ahead of those that come later; of the variant only one can be wrong.
func TestNewOrder(t *testing.T) {
	all := turns()
	for i := range all {
		for k := i + 1; k < len(all); k++ {
			if i == 0 && k == len(all)-1 {
				continue
			}
			for _, first := range all[i] {
				for _, second := range all[k] {
					h := shape()
					second.do(&h)
					first.do(&h)
					wantNotNew(t, h, first.f)
				}
			}
		}
	}
	h := Head{}
	for i := len(all) - 1; i >= 0; i-- {
		all[i][0].do(&h)
		wantNotNew(t, h, all[i][0].f)
	}
}

// New keeps nothing of what it is handed, and doesn't change it, spare room neither.
func TestNewMemory(t *testing.T) {
	roomy := func(l List) List { return append(slices.Clone(l), sp(77, 7), sp(78, 8)) }
	pos, neg := roomy(shape().Pos), roomy(shape().Neg)
	h := shape()
	h.Pos, h.Neg = pos[:2], neg[:1]
	c, m := begin(t, h)
	take(t, c, m, plain(1))
	_ = c.Head()
	_ = c.Copy()
	if !slices.Equal(pos, roomy(shape().Pos)) || !slices.Equal(neg, roomy(shape().Neg)) {
		t.Errorf("lists were changed: %v, %v", pos, neg)
	}
	for i := range pos {
		pos[i] = sp(9, 9)
	}
	for i := range neg {
		neg[i] = sp(8, 8)
	}
	wantAll(t, c, m)
	take(t, c, m, plain(2))
	wantAll(t, c, m)
}

// One list for both sides is two lists in the chunk.
func TestNewOneList(t *testing.T) {
	l := list(1, 2, 3, 4)
	c, m := begin(t, Head{Pos: l, Neg: l})
	h := c.Head()
	h.Pos[0] = sp(5, 5)
	if !slices.Equal(h.Neg, l) {
		t.Errorf("Head: %v", h)
	}
	wantAll(t, c, m)
}

func TestNewIndependent(t *testing.T) {
	a, am := begin(t, shape())
	b, bm := begin(t, shape())
	take(t, a, am, plain(4))
	wantAll(t, b, bm)
	take(t, b, bm, plain(-4))
	wantAll(t, a, am)
	wantAll(t, b, bm)
}

// Last is false beside a sample with nothing set, also where the head has something, and whatever was refused.
func TestLastNone(t *testing.T) {
	c, m := begin(t, shape())
	for range 3 {
		s, ok := c.Last()
		if ok || !reflect.DeepEqual(s, Sample{}) && !same(s, Sample{}) {
			t.Errorf("Last: %s, %v", show(s), ok)
		}
		wantRefused(t, c, m, Sample{}, fault{api.ErrSchema, "schema", 0})
	}
}

// otherSpans: lists with the places 3, 4 and 6 that aren't canonical.
func otherSpans() []List {
	return []List{
		list(3, 1, 0, 1, 1, 1),
		list(3, 2, 0, 0, 1, 1),
		list(3, 2, 1, 0, 0, 1),
		list(3, 2, 1, 1, 0, 0),
		list(3, 2, 1, 1, 1000, 0),
		list(0, 0, 3, 2, 1, 1),
		list(-5, 0, 8, 2, 1, 1),
		list(-far, 0, far+3, 2, 1, 1),
		list(1, 0, 2, 0, 0, 2, 0, 0, 0, 0, 1, 1, 0, 0),
		append(list(3, 2, 1, 1), spans(1022, 0, sp(0, 0))...),
	}
}

// The last sample's spans are the head's also where it came with others of the same places.
func TestLastSpans(t *testing.T) {
	for i, l := range otherSpans() {
		h := shape()
		h.Neg = slices.Clone(h.Pos)
		for k := range 3 {
			c, m := begin(t, h)
			s := sample(h, 5, 1, one, []int64{2, 3, 4}, []int64{5, 6, 7})
			if k != 1 {
				s.H.Pos = l
			}
			if k != 0 {
				s.H.Neg = l
			}
			take(t, c, m, s)
			wantAll(t, c, m)
			got, ok := c.Last()
			if !ok || !slices.Equal(got.H.Pos, h.Pos) || !slices.Equal(got.H.Neg, h.Neg) || !hist.Equal(got.H, s.H) {
				t.Errorf("%d: Last: %s, %v", i, show(got), ok)
			}
			s.T = 6
			take(t, c, m, s)
			wantAll(t, c, m)
		}
	}
}

// What Last tells is right, and counts the same as what was appended.
func TestLast(t *testing.T) {
	x := rand.New(rand.NewSource(15))
	for _, h := range heads() {
		c, m := begin(t, h)
		for i := range 3 {
			s := anyOf(x, h, int64(i)*7-3)
			take(t, c, m, s)
			got, ok := c.Last()
			if !ok || got.T != s.T || hist.Check(got.H) != api.OK || !hist.Equal(got.H, s.H) || !same(got, s) {
				t.Errorf("Last: %s, %v; want %s", show(got), ok, show(s))
			}
		}
		wantAll(t, c, m)
	}
}

// goOn: both of a chunk and its copy go on alone, from the same state on, in each column.
func goOn(t *testing.T, x *rand.Rand, c *chunk.Chunk, m *model) {
	t.Helper()
	d, n := c.Copy(), newModel(m.h)
	for _, s := range m.l {
		n.add(s)
	}
	wantAll(t, d, n)
	at := int64(1000 + 10*len(m.l))
	for i := range int64(4) {
		take(t, c, m, anyOf(x, m.h, at+3*i))
		wantAll(t, d, n)
		take(t, d, n, anyOf(x, m.h, at+7*i))
		wantAll(t, c, m)
	}
	take(t, d, n, anyOf(x, m.h, at+100))
	wantAll(t, c, m)
	wantAll(t, d, n)
}

func TestCopy(t *testing.T) {
	x := rand.New(rand.NewSource(51))
	for _, h := range []Head{{}, shape(), {Hint: 3, Schema: -4, Pos: list(-3, 7)}, {Schema: 8, Neg: list(2, 1, 1, 9)}} {
		for _, many := range []int{0, 1, 2, 3, 40} {
			c, m := begin(t, h)
			for i := range many {
				take(t, c, m, anyOf(x, h, int64(10*i)))
			}
			goOn(t, x, c, m)
		}
	}
}

// A copy of a copy, and one that is told again, go on alone too.
func TestCopyOfCopy(t *testing.T) {
	c, m := begin(t, shape())
	take(t, c, m, plain(1))
	d := c.Copy().Copy()
	e := c.Copy()
	take(t, c, m, plain(2))
	for _, o := range []*chunk.Chunk{d, e} {
		n := newModel(shape())
		n.add(plain(1))
		wantAll(t, o, n)
		take(t, o, n, plain(77))
		wantAll(t, o, n)
	}
	wantAll(t, c, m)
}

// scribble: all of a list, its spare room too, is turned.
func scribble[V any](l []V, v V) {
	l = l[:cap(l)]
	for i := range l {
		l[i] = v
	}
}

// clean: has a list nothing of v, its spare room neither?
func clean[V comparable](l []V, v V) bool { return !slices.Contains(l[:cap(l)], v) }

// What is told shares no memory with the chunk, nor with another answer, spare room neither.
func TestToldMemory(t *testing.T) {
	h := shape()
	h.Neg = slices.Clone(h.Pos)
	c, m := begin(t, h)
	for i := range 5 {
		d := c.Copy()
		a, b := c.Head(), c.Head()
		s, _ := c.Last()
		u, _ := c.Last()
		p, q := c.Bytes(), c.Bytes()
		lists := []List{a.Pos, a.Neg, b.Pos, b.Neg, s.H.Pos, s.H.Neg, u.H.Pos, u.H.Neg}
		for k, l := range lists {
			mark := sp(1000+k, 2000+k)
			scribble(l, mark)
			for j, o := range lists {
				if j != k && !clean(o, mark) {
					t.Fatalf("%d samples: lists %d and %d share memory", i, k, j)
				}
			}
		}
		counts := [][]int64{s.H.PosDeltas, s.H.NegDeltas, u.H.PosDeltas, u.H.NegDeltas}
		for k, l := range counts {
			mark := int64(1<<40 + k)
			scribble(l, mark)
			for j, o := range counts {
				if j != k && !clean(o, mark) {
					t.Fatalf("%d samples: differences %d and %d share memory", i, k, j)
				}
			}
		}
		scribble(p, 0xa5)
		if bytes.Equal(p, q) || !bytes.Equal(q, c.Bytes()) {
			t.Fatalf("%d samples: bytes share memory", i)
		}
		scribble(q, 0xff)
		wantAll(t, c, m)
		wantAll(t, d, m)
		take(t, c, m, sample(h, int64(i), 1, one, []int64{int64(i), 2, 3}, []int64{3, int64(i), 7}))
		wantAll(t, c, m)
	}
}

// A copy's answers share no memory with those of the other one.
func TestCopyMemory(t *testing.T) {
	c, m := begin(t, shape())
	take(t, c, m, plain(1))
	d := c.Copy()
	for _, x := range [][2]*chunk.Chunk{{c, d}, {d, c}} {
		h := x[0].Head()
		scribble(h.Pos, sp(9, 9))
		scribble(h.Neg, sp(9, 9))
		s, _ := x[0].Last()
		scribble(s.H.Pos, sp(9, 9))
		scribble(s.H.Neg, sp(9, 9))
		scribble(s.H.PosDeltas, 99)
		scribble(s.H.NegDeltas, 99)
		scribble(x[0].Bytes(), 0xff)
		wantAll(t, x[0], m)
		wantAll(t, x[1], m)
	}
}

// Behind the bits stand noughts up to the end of the last byte, as many as it takes.
func TestBytesNoughts(t *testing.T) {
	x := rand.New(rand.NewSource(8))
	seen := map[int]bool{}
	for _, h := range []Head{{}, shape(), {Schema: 1}} {
		c, m := begin(t, h)
		for i := range 60 {
			b := c.Bytes()
			if len(b) != (c.Bits()+7)/8 {
				t.Fatalf("%d bits in %d bytes", c.Bits(), len(b))
			}
			if n := c.Bits() % 8; n > 0 && b[len(b)-1]<<n != 0 {
				t.Errorf("%d bits end with %08b", c.Bits(), b[len(b)-1])
			}
			seen[c.Bits()%8] = true
			take(t, c, m, anyOf(x, h, int64(i*i)))
			wantAll(t, c, m)
		}
	}
	if len(seen) != 8 {
		t.Errorf("only %d kinds of last bytes", len(seen))
	}
}

// The first 16 bits tell how many samples there are, in both bytes.
func TestBytesCount(t *testing.T) {
	c, m := begin(t, Head{})
	for i := range 1024 {
		if b := c.Bytes(); int(b[0])<<8|int(b[1]) != i {
			t.Fatalf("%d samples: %x", i, b[:2])
		}
		s := Sample{T: int64(i)}
		if err := c.Append(s); err != nil {
			t.Fatal(err)
		}
		m.add(s)
	}
	wantAll(t, c, m)
	if b := c.Bytes(); b[0] != 4 || b[1] != 0 {
		t.Errorf("Bytes: %x", b[:2])
	}
}

// P15.2

// The chapter's example.
func TestExample(t *testing.T) {
	c, m := begin(t, Head{})
	if c.Bits() != 16+19 {
		t.Errorf("%d bits; want 35", c.Bits())
	}
	take(t, c, m, Sample{})
	if c.Bits() != 102 || c.Len() != 1 {
		t.Errorf("%d bits, %d samples; want 102, 1", c.Bits(), c.Len())
	}
	if b, _ := pack(zeros(15) + "1" + zeros(19+67)); !bytes.Equal(c.Bytes(), b) {
		t.Errorf("Bytes: %x; want %x", c.Bytes(), b)
	}
	wantRefused(t, c, m, Sample{}, fault{api.ErrTime, "time", 1})
	if n, err := c.Cost(Sample{T: 4}); n != 5+1+1+1 || err != nil {
		t.Errorf("Cost: %d, %v; want 8", n, err)
	}
	take(t, c, m, Sample{T: 4})
	if b, n := pack(zeros(14) + "10" + zeros(19+67) + "10100 0 0 0"); c.Bits() != n || !bytes.Equal(c.Bytes(), b) {
		t.Errorf("%d bits, %x; want %d, %x", c.Bits(), c.Bytes(), n, b)
	}
}

// A chunk with spans on both sides, whose bits are written out by hand.
func TestByHand(t *testing.T) {
	h := shape()
	c, m := begin(t, h)
	bits := "01 0 00000" + // the hint, the variant, and five noughts
		"10010" + // the schema
		"11110011" + // the threshold
		"10010" + "10010 10011" + "10001 10001" + // two spans: 2 from 3 on, and 1
		"10001" + "10001 0" // one span: 1 from 0 on
	want := func(n int, bits string) {
		t.Helper()
		b, all := pack(fmt.Sprintf("%016b", n) + bits)
		if c.Len() != n || c.Bits() != all || !bytes.Equal(c.Bytes(), b) {
			t.Errorf("%d samples, %d bits, %x; want %d, %d, %x", c.Len(), c.Bits(), c.Bytes(), n, all, b)
		}
	}
	want(0, bits)
	for i, x := range []struct {
		s    Sample
		bits []string
	}{
		{sample(h, 1000, 3, one, []int64{2, 0, 1}, []int64{4}), []string{
			"11110 001111101000",         // 1000
			"110 001010",                 // 10 in all
			"10 011",                     // 3
			fmt.Sprintf("%064b", one),    // the sum
			"10 010", "10 110", "10 001", // 2, -2, 1
			"10 100", // 4
		}},
		{sample(h, 1060, 3, oneHalf, []int64{3, 1, 1}, []int64{7}), []string{
			"1110 000111100",        // a step of 60
			"110 000101",            // a step of 5
			"0",                     // the same
			"11 01100 000001 1",     // one bit differs, behind 12 others
			"10 001", "0", "10 111", // 3, -2, 0: steps of 1, 0, -1
			"10 011", // a step of 3
		}},
		{sample(h, 1120, 4, one, []int64{0, 0, 0}, []int64{10}), []string{
			"0",                              // the same step
			"110 111010",                     // a step of -1, which is 6 less
			"10 001",                         // a step of 1
			"10 1",                           // the same bit differs
			"110 111100", "10 010", "10 001", // steps of -3, 2, 0, which are 4 less, 2 more, 1 more
			"0", // the same step
		}},
	} {
		all := strings.Join(x.bits, "")
		if n, err := c.Cost(x.s); n != len(join(all)) || err != nil {
			t.Errorf("Cost %d: %d, %v; want %d", i, n, err, len(join(all)))
		}
		for k, p := range m.parts(x.s) {
			if p != join(x.bits[k]) {
				t.Errorf("the model's own bits of sample %d, column %d: %s; want %s", i, k, p, x.bits[k])
			}
		}
		take(t, c, m, x.s)
		bits += all
		want(i+1, bits)
	}
}

// How many bits each sample of the head's description has, by its columns.
func TestCostByHand(t *testing.T) {
	h := Head{Pos: list(0, 2), Neg: list(0, 1)}
	c, m := begin(t, h)
	for i, x := range []struct {
		s Sample
		n int
	}{
		{sample(h, 0, 0, 0, []int64{0, 0}, []int64{0}), 1 + 1 + 1 + 64 + 1 + 1 + 1},
		{sample(h, 1, 0, 0, []int64{0, 0}, []int64{0}), 5 + 1 + 1 + 1 + 1 + 1 + 1},
		{sample(h, 2, 0, 0, []int64{0, 0}, []int64{0}), 7},
		{sample(h, 3, 4, 0, []int64{0, 0}, []int64{0}), 1 + 5 + 5 + 1 + 3},
		{sample(h, 4, 9, 0, []int64{0, 0}, []int64{0}), 1 + 5 + 5 + 1 + 3},
		{sample(h, 5, 14, 0, []int64{5, 0}, []int64{0}), 1 + 9 + 1 + 1 + 9 + 9 + 1}, // the second one's difference is -5
		{sample(h, 6, 19, 0, []int64{10, 0}, []int64{0}), 1 + 1 + 1 + 1 + 1 + 1 + 1},
		{sample(h, 7, 24, 1, []int64{15, 0}, []int64{0}), 1 + 1 + 1 + (2 + 5 + 6 + 33) + 1 + 1 + 1},
		{sample(h, 8, 29, 0, []int64{20, 0}, []int64{300}), 1 + 17 + 1 + (2 + 33) + 1 + 1 + 17},
	} {
		if n, err := c.Cost(x.s); n != x.n || err != nil {
			t.Errorf("Cost %d: %d, %v; want %d", i, n, err, x.n)
		}
		take(t, c, m, x.s)
	}
	wantAll(t, c, m)
}

// Samples that come evenly, and grow evenly, have one bit in each column from the third one on, but for sums that grow.
func TestEven(t *testing.T) {
	h := shape()
	c, m := begin(t, h)
	for i := range int64(300) {
		s := sample(h, 1000+60*i, uint64(3+2*i), one, []int64{5 + 7*i, 100 + i, 4 * i}, []int64{9 + 3*i})
		n, err := c.Cost(s)
		if err != nil || i >= 2 && n != 4+3+1 {
			t.Errorf("Cost %d: %d, %v; want 8", i, n, err)
		}
		take(t, c, m, s)
	}
	wantAll(t, c, m)
}

// The same sample again and again: one bit in each column from the third on.
func TestAgain(t *testing.T) {
	for _, h := range []Head{{}, shape(), {Pos: list(0, 100), Neg: list(5, 50)}} {
		x := rand.New(rand.NewSource(3))
		s := anyOf(x, h, 0)
		s.H.Sum = one
		c, m := begin(t, h)
		for i := range int64(50) {
			s.T = -70 + 15*i
			n, err := c.Cost(s)
			if want := 4 + len(s.H.PosDeltas) + len(s.H.NegDeltas); err != nil || i >= 2 && n != want {
				t.Errorf("Cost %d: %d, %v; want %d", i, n, err, want)
			}
			take(t, c, m, s)
		}
		wantAll(t, c, m)
	}
}

// flaw: what is wrong with a sample that would else be taken, and what is told of it. One that is alone is none on other places.
type flaw struct {
	do    func(s *Sample)
	e     api.Errno
	place string
	alone bool
}

// onThree: these differences on the positive side, on three places.
func onThree(h *Hist, l ...int64) {
	if len(h.PosDeltas) != 3 {
		h.Pos = list(7, 3)
	}
	h.PosDeltas = l
}

// wrongHists: of each of layer 9's errors some.
func wrongHists() []flaw {
	var l []flaw
	add := func(e api.Errno, alone bool, do func(h *Hist)) {
		l = append(l, flaw{func(s *Sample) { do(&s.H) }, e, "hist", alone})
	}
	for _, v := range []int{-5, 9, math.MinInt, math.MaxInt} {
		add(api.ErrSchema, false, func(h *Hist) { h.Schema = v })
	}
	for _, v := range []uint64{infinite, nan, minus0, math.MaxUint64} {
		add(api.ErrRange, false, func(h *Hist) { h.Zero = v })
	}
	for _, s := range []List{spans(1025, 0, sp(0, 0)), spans(1025, -far-1, sp(-1, 1))} {
		add(api.ErrMany, false, func(h *Hist) { h.Pos = s })
		add(api.ErrMany, false, func(h *Hist) { h.Neg = s })
	}
	for _, s := range []List{list(far+1, 1), list(3, 2, -1, 1), list(3, -1), list(0, 4097), list(math.MaxInt, math.MaxInt)} {
		add(api.ErrSpan, false, func(h *Hist) { h.Pos = s })
		add(api.ErrSpan, false, func(h *Hist) { h.Neg = s })
	}
	add(api.ErrLayout, false, func(h *Hist) { h.PosDeltas = append(slices.Clone(h.PosDeltas), 0) })
	add(api.ErrLayout, false, func(h *Hist) { h.NegDeltas = append(slices.Clone(h.NegDeltas), 0) })
	add(api.ErrLayout, true, func(h *Hist) { h.PosDeltas = h.PosDeltas[:2] })
	add(api.ErrLayout, true, func(h *Hist) { h.PosDeltas = nil })
	add(api.ErrLayout, true, func(h *Hist) { h.NegDeltas = nil })
	add(api.ErrLayout, true, func(h *Hist) { h.Pos = nil })
	add(api.ErrLayout, true, func(h *Hist) { h.Neg = nil })
	add(api.ErrOverflow, false, func(h *Hist) { onThree(h, math.MaxInt64, 1, 0) })
	add(api.ErrOverflow, false, func(h *Hist) { onThree(h, 5, math.MaxInt64, -1) })
	add(api.ErrCount, false, func(h *Hist) { onThree(h, 1, -2, 2) })
	add(api.ErrCount, false, func(h *Hist) { onThree(h, -1, 2, 0) })
	add(api.ErrCount, true, func(h *Hist) { h.NegDeltas[0] = -1 })
	add(api.ErrCount, false, func(h *Hist) { h.Count++ })
	add(api.ErrCount, false, func(h *Hist) { h.Count-- })
	add(api.ErrCount, false, func(h *Hist) { h.ZeroCount = math.MaxUint64 })
	add(api.ErrCount, false, func(h *Hist) { h.Count, h.Sum = h.Count-1, nan })
	return l
}

// flaws: of each error of Append that samples of the shape above can have some, in the promise's order; the last one's T is 100.
func flaws() [][]flaw {
	all := make([][]flaw, 6)
	add := func(n int, e api.Errno, place string, do func(s *Sample)) {
		all[n] = append(all[n], flaw{do, e, place, false})
	}
	all[0] = wrongHists()
	for v := api.MinSchema; v <= api.MaxSchema; v++ {
		if v != shape().Schema {
			add(1, api.ErrSchema, "schema", func(s *Sample) { s.H.Schema = v })
		}
	}
	for _, v := range []uint64{0, 1, shape().Zero - 1, shape().Zero + 1, one, infinite - 1} {
		add(2, api.ErrRange, "zero", func(s *Sample) { s.H.Zero = v })
	}
	for _, l := range otherPlaces() {
		add(3, api.ErrLayout, "pos", func(s *Sample) { s.H = withPlaces(s.H, l, s.H.Neg) })
	}
	for _, l := range []List{nil, {}, list(1, 1), list(-1, 1), list(0, 2), list(-1, 2), list(0, 1, 1, 1), list(far, 1), list(0, 0)} {
		add(4, api.ErrLayout, "neg", func(s *Sample) { s.H = withPlaces(s.H, s.H.Pos, l) })
	}
	for _, v := range []int64{100, 99, 98, 0, -1, -100, math.MinInt64 + 1, math.MinInt64} {
		add(5, api.ErrTime, "time", func(s *Sample) { s.T = v })
	}
	return all
}

// otherPlaces: lists that haven't just the places 3, 4 and 6.
func otherPlaces() []List {
	return []List{
		nil,
		{},
		list(3, 2),                   // one fewer
		list(4, 1, 1, 1),             // one fewer
		list(3, 1, 2, 1),             // one fewer
		list(3, 4),                   // one more
		list(2, 3, 1, 1),             // one more
		list(3, 2, 1, 2),             // one more
		list(3, 2, 1, 1, 5, 1),       // one more
		list(3, 3),                   // one moved
		list(3, 2, 2, 1),             // one moved
		list(2, 1, 1, 1, 1, 1),       // one moved
		list(4, 2, 1, 1),             // all moved
		list(-3, 2, 1, 1),            // all moved
		list(3, 0, 0, 2, 1, 0, 1, 1), // one moved, with spans that have none
		list(3, 0),                   // none
		list(0, 4096),                // many
	}
}

// withPlaces: a right histogram on other places, with nothing there.
func withPlaces(h Hist, pos, neg List) Hist {
	h.Pos, h.Neg = slices.Clone(pos), slices.Clone(neg)
	h.PosDeltas, h.NegDeltas = make([]int64, len(placesOf(pos))), make([]int64, len(placesOf(neg)))
	h.Count = h.ZeroCount
	return h
}

// ready: a chunk of the shape above with so many samples, the last one's T being 100.
func ready(t *testing.T, n int) (*chunk.Chunk, *model) {
	t.Helper()
	c, m := begin(t, shape())
	for i := range n {
		take(t, c, m, plain(int64(101-n+i)))
	}
	return c, m
}

// Each error is told with its code, its place and its number, and changes nothing; behind it samples go on as if it hadn't been.
func TestRefused(t *testing.T) {
	for _, n := range []int{0, 1, 2, 7} {
		c, m := ready(t, n)
		for i, l := range flaws() {
			if n == 0 && i == 5 {
				continue // of the first one T may be any
			}
			for _, x := range l {
				s := plain(200)
				x.do(&s)
				wantRefused(t, c, m, s, fault{x.e, x.place, n})
			}
		}
		take(t, c, m, plain(200))
		take(t, c, m, plain(300))
		wantAll(t, c, m)
	}
}

// Of two errors the one is told that the promise names first.
func TestRefusedOrder(t *testing.T) {
	all := flaws()
	for _, n := range []int{0, 3} {
		c, m := ready(t, n)
		for i := range all {
			for k := i + 1; k < len(all); k++ {
				for _, first := range all[i] {
					for _, second := range all[k] {
						if first.alone && (second.place == "pos" || second.place == "neg") {
							continue
						}
						s := plain(200)
						second.do(&s)
						first.do(&s)
						wantRefused(t, c, m, s, fault{first.e, first.place, n})
					}
				}
			}
		}
	}
}

// All errors at once, and then one by one fewer.
func TestRefusedAll(t *testing.T) {
	all := flaws()
	c, m := ready(t, 4)
	s := plain(200)
	for i := len(all) - 1; i >= 0; i-- {
		all[i][0].do(&s)
		wantRefused(t, c, m, s, fault{all[i][0].e, all[i][0].place, 4})
	}
}

// An error within a chunk's samples changes nothing of the columns: those behind it are put as if it hadn't been.
func TestRefusedBetween(t *testing.T) {
	x := rand.New(rand.NewSource(16))
	h := shape()
	c, m := begin(t, h)
	for i := range 60 {
		s := anyOf(x, h, int64(200+10*i))
		take(t, c, m, s)
		s.T = int64(i)
		wantRefused(t, c, m, s, fault{api.ErrTime, "time", i + 1})
		s = anyOf(x, h, int64(205+10*i))
		s.H.Count++
		s.H.Sum = one
		wantRefused(t, c, m, s, fault{api.ErrCount, "hist", i + 1})
	}
	wantAll(t, c, m)
}

// Spans that aren't canonical but have just the head's places are taken.
func TestOtherSpans(t *testing.T) {
	c, m := begin(t, shape())
	negs := []List{list(0, 1), list(-1, 0, 1, 1), list(0, 0, 0, 1), list(0, 1, 0, 0), list(0, 1, 9, 0)}
	for i, l := range append(otherSpans(), shape().Pos) {
		for k, n := range negs {
			s := plain(int64(10*i + k))
			s.H.Pos, s.H.Neg = l, n
			take(t, c, m, s)
		}
	}
	wantAll(t, c, m)
	// a side without places, of which there are several lists too
	c, m = begin(t, Head{})
	for i, l := range []List{nil, {}, list(0, 0), list(5, 0, 7, 0), list(far, 0), spans(1024, 0, sp(0, 0))} {
		take(t, c, m, Sample{T: int64(2 * i), H: Hist{Pos: l, PosDeltas: []int64{}}})
		take(t, c, m, Sample{T: int64(2*i + 1), H: Hist{Neg: l}})
	}
	wantAll(t, c, m)
}

// On the greatest sides, too, places are held against the head's one by one.
func TestManyPlaces(t *testing.T) {
	for _, l := range sides()[9:] {
		h := Head{Pos: l, Neg: l}
		c, m := begin(t, h)
		s := Sample{H: withPlaces(Hist{}, l, l)}
		take(t, c, m, s)
		s.T = 1
		for _, side := range []string{"pos", "neg"} {
			other := slices.Clone(l)
			other[len(other)-1].Len--
			w := Sample{T: 1, H: withPlaces(Hist{}, l, other)}
			if side == "pos" {
				w.H = withPlaces(Hist{}, other, l)
			}
			wantRefused(t, c, m, w, fault{api.ErrLayout, side, 1})
		}
		take(t, c, m, s)
		wantAll(t, c, m)
	}
}

func times() []int64 {
	return []int64{math.MinInt64, math.MinInt64 + 1, -1 << 55, -1000, -1, 0, 1, 2, 1000, 1 << 55, math.MaxInt64 - 1, math.MaxInt64}
}

// The first sample may have any T; each further one must be above the last one.
func TestTime(t *testing.T) {
	for _, first := range times() {
		for _, second := range times() {
			c, m := begin(t, Head{})
			take(t, c, m, Sample{T: first})
			if second <= first {
				wantRefused(t, c, m, Sample{T: second}, fault{api.ErrTime, "time", 1})
				continue
			}
			take(t, c, m, Sample{T: second})
			wantAll(t, c, m)
			for _, third := range times() {
				if third <= second {
					wantRefused(t, c, m, Sample{T: third}, fault{api.ErrTime, "time", 2})
				}
			}
		}
	}
	c, m := begin(t, Head{})
	for _, v := range times() {
		take(t, c, m, Sample{T: v})
	}
	wantAll(t, c, m)
	for _, v := range times() {
		wantRefused(t, c, m, Sample{T: v}, fault{api.ErrTime, "time", len(times())})
	}
}

// MaxSamples samples and one more; each error that stands ahead is told ahead.
func TestMaxSamples(t *testing.T) {
	c, m := ready(t, 1023)
	d := c.Copy()
	take(t, c, m, plain(101))
	if c.Len() != api.MaxSamples || d.Len() != api.MaxSamples-1 {
		t.Errorf("%d and %d samples", c.Len(), d.Len())
	}
	for _, v := range []int64{102, 1000, math.MaxInt64} {
		wantRefused(t, c, m, plain(v), fault{api.ErrFull, "samples", 1024})
	}
	for _, l := range flaws() {
		for i, x := range l {
			if i%4 == 0 {
				s := plain(200)
				x.do(&s)
				wantRefused(t, c, m, s, fault{x.e, x.place, 1024})
			}
		}
	}
	wantRefused(t, c, m, plain(101), fault{api.ErrTime, "time", 1024})
	e := c.Copy()
	wantRefused(t, e, m, plain(102), fault{api.ErrFull, "samples", 1024})
	n := newModel(shape())
	for _, s := range m.l[:1023] {
		n.add(s)
	}
	take(t, d, n, plain(500))
	wantAll(t, d, n)
}

// wide: a head with 1024 buckets.
func wide() Head { return Head{Pos: list(0, 512), Neg: list(-7, 512)} }

// level: a sample of which each other bucket has n, so that its differences go up and down.
func level(t int64, n int64) Sample {
	counts := make([]int64, 512)
	for i := range counts {
		counts[i] = n * int64(1-i%2)
	}
	return sample(wide(), t, 0, one, counts, counts)
}

// The lower level and the step that the levels rise by: much for a column, so that going to and fro has 64 bits in each.
const (
	ground = 1 << 30
	step   = 1 << 29
)

// fill: samples that go to and fro till no further one of these fits; the last one rises.
func fill(t *testing.T, do func(s Sample), bits func() int) (at int64) {
	t.Helper()
	for at = 0; at < 1000 && bits()+2*(64*1024+300) <= api.MaxBits; at++ {
		do(level(at, ground+at%2*step))
	}
	for ; at%2 == 1 || at == 0; at++ {
		do(level(at, ground+at%2*step))
	}
	return at
}

// MaxBits bits: a sample with which a chunk has just as many, and one with one bit more.
func TestMaxBits(t *testing.T) {
	c, m := begin(t, wide())
	do := func(s Sample) {
		t.Helper()
		if err := c.Append(s); err != nil {
			t.Fatalf("%d bits: %v", c.Bits(), err)
		}
		m.add(s)
	}
	at := fill(t, do, c.Bits)
	for k := int64(2); at < 1000 && api.MaxBits-c.Bits() > 2*1028; k, at = k+1, at+1 {
		do(level(at, ground+k*step)) // one bit a column, as it goes on rising
	}
	wantFew(t, c, m)
	n := len(m.l)
	last, tooMany := lastFitting(t, m, at)
	for _, s := range []Sample{tooMany, level(at, 0), level(at+5000, ground)} {
		wantRefused(t, c, m, s, fault{api.ErrFull, "bits", n})
	}
	for i, f := range []func(s *Sample){
		func(s *Sample) { s.H.Count++ },
		func(s *Sample) { s.H.Schema = 1 },
		func(s *Sample) { s.H.Zero = 1 },
		func(s *Sample) { s.H.Pos = list(1, 512) },
		func(s *Sample) { s.H.Neg = list(1, 512) },
		func(s *Sample) { s.T = at - 1 },
	} {
		s := level(at, 0)
		f(&s)
		want := []fault{{api.ErrCount, "hist", n}, {api.ErrSchema, "schema", n}, {api.ErrRange, "zero", n}, {api.ErrLayout, "pos", n}, {api.ErrLayout, "neg", n}, {api.ErrTime, "time", n}}[i]
		_, err := c.Cost(s)
		wantErr(t, "Cost", err, want)
		wantErr(t, "Append", c.Append(s), want)
	}
	d := c.Copy()
	take(t, c, m, last)
	if c.Bits() != api.MaxBits || len(c.Bytes()) != api.MaxBits/8 {
		t.Errorf("%d bits, %d bytes", c.Bits(), len(c.Bytes()))
	}
	wantAll(t, c, m)
	s := last
	s.T++
	wantRefused(t, c, m, s, fault{api.ErrFull, "bits", n + 1})
	if err := d.Append(tooMany); fail.Text(err) != fmt.Sprintf("bits %d: 29", n) || d.Len() != n {
		t.Errorf("Append to a copy: %v", err)
	}
	if err := d.Append(last); err != nil || !bytes.Equal(c.Bytes(), d.Bytes()) {
		t.Errorf("Append to a copy: %v", err)
	}
}

// lastFitting: a sample that has just the bits that are left, and one that has one more: some columns turn by one, and the sum has as many bits as it takes.
func lastFitting(t *testing.T, m *model, at int64) (just, more Sample) {
	t.Helper()
	a, b := m.l[len(m.l)-2].H, m.l[len(m.l)-1].H
	for turned := range 512 {
		s := Sample{T: at, H: ownHist(b)}
		counted := uint64(0)
		for i := range s.H.PosDeltas {
			s.H.PosDeltas[i] = 2*b.PosDeltas[i] - a.PosDeltas[i]
			s.H.NegDeltas[i] = 2*b.NegDeltas[i] - a.NegDeltas[i]
			if i < turned {
				s.H.PosDeltas[i]++
				s.H.NegDeltas[i]++
			}
		}
		for _, l := range [][]int64{s.H.PosDeltas, s.H.NegDeltas} {
			counts, _ := pairs.Absolute(l)
			counted += total(counts...)
		}
		s.H.Count = counted
		left := api.MaxBits - m.len() - (m.cost(s) - 1) - 13 // a sum that is told anew has 13 bits and those that differ
		if left < 1 || left > 63 {
			continue
		}
		just, more = s, s
		just.H.Sum ^= 1<<63 | 1<<(64-left)
		more.H.Sum ^= 1<<63 | 1<<(63-left)
		if m.len()+m.cost(just) != api.MaxBits || m.len()+m.cost(more) != api.MaxBits+1 {
			t.Fatalf("%d and %d bits", m.len()+m.cost(just), m.len()+m.cost(more))
		}
		return just, more
	}
	t.Fatalf("no sample has just %d bits", api.MaxBits-m.len())
	return Sample{}, Sample{}
}

// Too many samples are told ahead of too many bits.
func TestMaxBoth(t *testing.T) {
	c, err := chunk.New(wide())
	if err != nil {
		t.Fatal(err)
	}
	at := int64(0)
	do := func(s Sample) {
		t.Helper()
		if err := c.Append(s); err != nil {
			t.Fatalf("%d samples, %d bits: %v", c.Len(), c.Bits(), err)
		}
		at++
	}
	const much = 64*1024 + 1 + 64 + 1 + 1                         // of one that goes to and fro
	for at < 1000 && c.Bits()+(1024-c.Len())*much > api.MaxBits { // few bits each, till there is room for as many of those as are left
		do(level(at, ground))
	}
	k := int64(1)
	for ; at < 1024; k++ {
		do(level(at, ground+k%2*step))
	}
	s := level(at, ground+k%2*step)
	if left := api.MaxBits - c.Bits(); left < 0 || left >= much {
		t.Fatalf("%d bits are left", left)
	}
	was := c.Bytes()
	f := fault{api.ErrFull, "samples", 1024}
	n, err := c.Cost(s)
	wantErr(t, "Cost", err, f)
	wantErr(t, "Append", c.Append(s), f)
	if n != 0 || c.Len() != 1024 || !bytes.Equal(c.Bytes(), was) {
		t.Errorf("%d samples, Cost %d", c.Len(), n)
	}
}

// Cost is asked of many samples between, and none of them is kept.
func TestCostChangesNothing(t *testing.T) {
	x := rand.New(rand.NewSource(18))
	h := shape()
	c, m := begin(t, h)
	for i := range 40 {
		for range 5 {
			s := anyOf(x, h, int64(10*i)+x.Int63n(10))
			wantCost(t, c, m, s)
			wantAll(t, c, m)
		}
		take(t, c, m, anyOf(x, h, int64(10*i)+x.Int63n(10)))
	}
	wantAll(t, c, m)
}

// Columns whose steps, and changes of steps, are the greatest, and go round 2^64.
func TestGreatest(t *testing.T) {
	h := Head{Pos: list(0, 3), Neg: list(0, 1)}
	const most = math.MaxInt64
	all := []Sample{}
	add := func(zero, more uint64, pos []int64, neg int64) {
		s := sample(h, 0, zero, one, pos, []int64{neg})
		s.H.Count += more
		if more > 0 {
			s.H.Sum = nan
		}
		all = append(all, s)
	}
	add(0, 0, []int64{0, 0, 0}, 0)
	add(0, 0, []int64{most, 0, most}, 0) // differences of the greatest, and of the greatest below 0
	add(0, 0, []int64{0, most, 0}, most)
	add(1, 0, []int64{most, 0, 0}, most)
	add(math.MaxUint64, 0, []int64{0, 0, 0}, 0)
	add(0, math.MaxUint64, []int64{0, 0, 0}, 0)
	add(1<<63, 0, []int64{0, 0, 0}, most)
	add(1<<63-1, 0, []int64{0, 0, most}, 1)
	add(1<<63-1, 1, []int64{0, 0, most}, 0)
	add(0, 1<<63, []int64{0, most, 0}, 0)
	add(math.MaxUint64-1, 0, []int64{0, 1, 0}, 0)
	for _, s := range all {
		if e := hist.Check(s.H); e != api.OK {
			t.Fatalf("%s: %d", show(s), e)
		}
	}
	x := rand.New(rand.NewSource(64))
	for i := range all {
		for k := range all {
			c, m := begin(t, h)
			for at, n := range []int{i, k, i, k, k, i, i} {
				s := all[n]
				s.T = int64(at)
				take(t, c, m, s)
			}
			wantAll(t, c, m)
		}
	}
	c, m := begin(t, h)
	for i := range 500 {
		s := all[x.Intn(len(all))]
		s.T = int64(i)
		take(t, c, m, s)
	}
	wantAll(t, c, m)
	// T too, which only rises
	for _, l := range [][]int64{{math.MinInt64, 0, most}, {math.MinInt64, most}, {math.MinInt64, most - 1, most}, {math.MinInt64, math.MinInt64 + 1, most}, {-1, 0, most}, {math.MinInt64, -1, 0, 1, most}} {
		c, m := begin(t, h)
		for i, v := range l {
			s := all[i]
			s.T = v
			take(t, c, m, s)
		}
		wantAll(t, c, m)
	}
}

// Sums of all kinds, each behind each: they are held against each other by their bits.
func TestSums(t *testing.T) {
	sums := []uint64{
		0, minus0, one, oneHalf, math.Float64bits(-1), 1, 1<<63 | 1, infinite - 1, infinite, infinite + 1, below - 1, below, below + 1,
		nan, nan | 1, 0x7ff0000000000002, 0xfff8000000000000, 1<<63 - 1, math.MaxUint64, math.MaxUint64 - 1,
	}
	h := Head{Pos: list(0, 1)}
	for _, a := range sums {
		for _, b := range sums {
			c, m := begin(t, h)
			for i, v := range []uint64{a, b, b, a, b} {
				take(t, c, m, sample(h, int64(i), 2, v, []int64{int64(i)}, nil))
			}
			wantAll(t, c, m)
			if s, ok := c.Last(); !ok || s.H.Sum != b {
				t.Errorf("Last: %x, %v; want %x", s.H.Sum, ok, b)
			}
		}
	}
}

// Of a sum that is no number the counts may be fewer than Count, and not more; of the infinite ones they may not.
func TestSumsCounts(t *testing.T) {
	h := Head{Pos: list(0, 1)}
	c, m := begin(t, h)
	for i, v := range []uint64{nan, infinite + 1, below + 1, math.MaxUint64} {
		s := sample(h, int64(i), 2, v, []int64{5}, nil)
		s.H.Count += uint64(100 * i)
		take(t, c, m, s)
		s.T = 100
		s.H.Count = 6
		wantRefused(t, c, m, s, fault{api.ErrCount, "hist", i + 1})
	}
	for _, v := range []uint64{0, minus0, one, infinite, below} {
		s := sample(h, 200, 2, v, []int64{5}, nil)
		s.H.Count++
		wantRefused(t, c, m, s, fault{api.ErrCount, "hist", 4})
		s.H.Count -= 2
		wantRefused(t, c, m, s, fault{api.ErrCount, "hist", 4})
	}
	wantAll(t, c, m)
}

// roomy: a list with spare room that has something.
func roomy[V any](l []V, v V) []V { return append(slices.Clone(l), v, v, v) }

// Lists that are handed in are neither changed nor kept, their spare room neither; whether the sample is taken or not.
func TestSampleMemory(t *testing.T) {
	h := shape()
	c, m := begin(t, h)
	for i := range 8 {
		s := sample(h, int64(i/2), 1, one, []int64{int64(i), 9, 2}, []int64{7})
		pos, neg := roomy(s.H.Pos, sp(77, 7)), roomy(s.H.Neg, sp(88, 8))
		posDeltas, negDeltas := roomy(s.H.PosDeltas, 77), roomy(s.H.NegDeltas, 88)
		wantPos, wantNeg := slices.Clone(pos), slices.Clone(neg)
		wantPosDeltas, wantNegDeltas := slices.Clone(posDeltas), slices.Clone(negDeltas)
		handed := s
		handed.H.Pos, handed.H.Neg = pos[:2], neg[:1]
		handed.H.PosDeltas, handed.H.NegDeltas = posDeltas[:3], negDeltas[:1]
		if i%2 == 0 {
			take(t, c, m, handed)
		} else {
			wantRefused(t, c, m, handed, fault{api.ErrTime, "time", i/2 + 1})
		}
		if !slices.Equal(pos, wantPos) || !slices.Equal(neg, wantNeg) || !slices.Equal(posDeltas, wantPosDeltas) || !slices.Equal(negDeltas, wantNegDeltas) {
			t.Fatalf("%d: lists were changed: %v, %v, %v, %v", i, pos, neg, posDeltas, negDeltas)
		}
		scribble(pos, sp(1, 1))
		scribble(neg, sp(1, 1))
		scribble(posDeltas, 1)
		scribble(negDeltas, 1)
		wantAll(t, c, m)
	}
	got, _ := c.Last()
	if !same(got, m.l[3]) {
		t.Errorf("Last: %s; want %s", show(got), show(m.l[3]))
	}
}

// The sample that Last told may be handed in again, later.
func TestLastAgain(t *testing.T) {
	c, m := begin(t, shape())
	take(t, c, m, plain(1))
	for i := range 20 {
		s, ok := c.Last()
		if !ok {
			t.Fatal("no last one")
		}
		wantRefused(t, c, m, s, fault{api.ErrTime, "time", i + 1})
		s.T += 5
		take(t, c, m, s)
	}
	wantAll(t, c, m)
}

// Chunks, random ones, against the model: right samples, and some that are turned in some way.
func TestModel(t *testing.T) {
	x := rand.New(rand.NewSource(150))
	taken, not := 0, map[string]int{}
	for range 400 {
		h := anyHead(x)
		c, m := begin(t, h)
		at := x.Int63n(1<<x.Intn(50)) - x.Int63n(1<<x.Intn(50))
		for range x.Intn(30) {
			s := anyOf(x, h, at)
			if x.Intn(3) == 0 {
				spoil(x, &s)
			}
			if f := m.refuses(s); f != none {
				not[f.place]++
				wantRefused(t, c, m, s, f)
				continue
			}
			taken++
			take(t, c, m, s)
			at += x.Int63n(1 << x.Intn(30))
			at++
		}
		wantAll(t, c, m)
	}
	if taken < 2000 || len(not) != 6 {
		t.Errorf("%d were taken; not: %v", taken, not)
	}
}

// anyHead: a right one, with few places.
func anyHead(x *rand.Rand) Head {
	side := func() List {
		var l List
		for i := range x.Intn(4) {
			first := x.Intn(50) - 25
			if i > 0 {
				first = 1 + x.Intn(20)
			}
			l = append(l, sp(first, 1+x.Intn(3)))
		}
		return l
	}
	return Head{Hint: x.Intn(4), Schema: x.Intn(13) - 4, Zero: uint64(x.Intn(3)) << 50, Pos: side(), Neg: side()}
}

// spoil: one thing or more of a sample is turned, which may leave it right.
func spoil(x *rand.Rand, s *Sample) {
	for range 1 + x.Intn(2) {
		switch x.Intn(10) {
		case 0:
			s.H.Schema += x.Intn(3) - 1
		case 1:
			s.H.Zero ^= uint64(x.Intn(3)) << 50
		case 2:
			s.H.Zero = x.Uint64()
		case 3:
			s.H.Count += uint64(x.Intn(3)) - 1
		case 4:
			s.H.ZeroCount, s.H.Count = s.H.ZeroCount+1, s.H.Count+1
		case 5:
			s.T -= x.Int63n(1 << x.Intn(50))
		case 6:
			spoilSide(x, s.H.Pos)
		case 7:
			spoilSide(x, s.H.Neg)
		case 8:
			s.H.PosDeltas = append(s.H.PosDeltas, 0)
		case 9:
			s.H.Pos = append(List{sp(0, 0)}, s.H.Pos...)
		}
	}
}

func spoilSide(x *rand.Rand, l List) {
	if len(l) > 0 {
		i := x.Intn(len(l))
		l[i].Offset += x.Intn(3) - 1
		if x.Intn(2) == 0 && l[i].Len > 1 {
			l[i].Len--
			if i+1 < len(l) {
				l[i+1].Len++
			}
		}
	}
}

// Whatever samples are, a call ends, and tells what the model tells.
func TestWild(t *testing.T) {
	x := rand.New(rand.NewSource(151))
	numbers := func() []int64 {
		l := make([]int64, x.Intn(4))
		for i := range l {
			l[i] = []int64{0, 0, 1, -1, x.Int63(), -x.Int63(), math.MaxInt64, math.MinInt64}[x.Intn(8)]
		}
		return l
	}
	ints := []int{0, 0, 1, 2, 3, -1, 4096, 4097, far, -far, far + 1, math.MinInt, math.MaxInt}
	side := func() List {
		var l List
		for range x.Intn(3) {
			l = append(l, sp(ints[x.Intn(len(ints))], ints[x.Intn(len(ints))]))
		}
		return l
	}
	c, m := ready(t, 2)
	for range 20000 {
		s := Sample{T: x.Int63() - x.Int63(), H: Hist{
			Schema: ints[x.Intn(len(ints))], Zero: shape().Zero, ZeroCount: uint64(x.Intn(2)), Count: uint64(x.Intn(4)), Sum: x.Uint64(),
			Pos: side(), Neg: side(), PosDeltas: numbers(), NegDeltas: numbers(),
		}}
		f := m.refuses(s)
		if f == none {
			t.Fatalf("a wild one is right: %s", show(s))
		}
		n, err := c.Cost(s)
		wantErr(t, "Cost of "+show(s), err, f)
		wantErr(t, "Append of "+show(s), c.Append(s), f)
		if n != 0 {
			t.Errorf("Cost of %s: %d beside an error", show(s), n)
		}
	}
	wantAll(t, c, m)
}
