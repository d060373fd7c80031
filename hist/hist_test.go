package hist_test

import (
	"fmt"
	"maps"
	"math"
	"math/big"
	"math/rand"
	"slices"
	"testing"

	"tidepole/api"
	"tidepole/hist"
	"tidepole/pairs"
	"tidepole/span"
)

const (
	far      = api.MaxOffset
	most     = api.MaxBuckets
	top      = math.MaxInt64
	bottom   = math.MinInt64
	infinite = 0x7ff0000000000000
	sign     = 1 << 63
	noNumber = 0x7ff8000000000001
	all      = math.MaxUint64
)

// H: a histogram, S: a span, P: a pair, and B: a bucket, as short as the tables below want them.
type (
	H = hist.Hist
	S = span.Span
	P = pairs.Pair[int64]
	B = hist.Bucket
)

// sp: a span, and list: some of them, each by its Offset and its Len.
func sp(offset, n int) S { return S{Offset: offset, Len: n} }

func list(numbers ...int) []S {
	var l []S
	for s := range slices.Chunk(numbers, 2) {
		l = append(l, sp(s[0], s[1]))
	}
	return l
}

// spans: n spans, all alike.
func spans(n int, s S) []S { return slices.Repeat([]S{s}, n) }

// at: pairs, each by its place and its count.
func at(numbers ...int64) []P {
	var l []P
	for s := range slices.Chunk(numbers, 2) {
		l = append(l, P{Place: int(s[0]), V: s[1]})
	}
	return l
}

// row: n pairs of one count, each so far behind the one ahead.
func row(first, n, step int, v int64) []P {
	var l []P
	for i := range n {
		l = append(l, P{Place: first + i*step, V: v})
	}
	return l
}

// d: differences.
func d(numbers ...int64) []int64 { return numbers }

// some: an ordinary histogram: -1, 0 and 4 with 3, 0 and 1; 5 and 6 with 1 and 3; 2 in the zero bucket.
func some() H {
	return H{Schema: 3, Zero: 1, ZeroCount: 2, Count: 10, Sum: 0x4000000000000000, Pos: list(-1, 2, 3, 1), PosDeltas: d(3, -3, 1), Neg: list(5, 2), NegDeltas: d(1, 2)}
}

// turned: the ordinary one, but for something.
func turned(turns ...func(h *H)) H {
	h := some()
	for _, turn := range turns {
		turn(&h)
	}
	return h
}

// positive: a histogram of these buckets alone, whose Count is what they come to.
func positive(l []S, deltas []int64) H {
	h := H{Pos: l, PosDeltas: deltas}
	for _, n := range sums(deltas) {
		h.Count += n.Uint64()
	}
	return h
}

// flipped: one side in the place of the other.
func flipped(h H) H {
	h.Pos, h.Neg, h.PosDeltas, h.NegDeltas = h.Neg, h.Pos, h.NegDeltas, h.PosDeltas
	return h
}

// one: are two histograms so, list by list?
func one(a, b H) bool {
	return numbersOf(a) == numbersOf(b) && slices.Equal(a.Pos, b.Pos) && slices.Equal(a.Neg, b.Neg) &&
		slices.Equal(a.PosDeltas, b.PosDeltas) && slices.Equal(a.NegDeltas, b.NegDeltas)
}

func numbersOf(h H) [5]uint64 {
	return [5]uint64{uint64(h.Schema), h.Zero, h.ZeroCount, h.Count, h.Sum}
}

// text: a list, cut short for the eye, and show: a histogram so.
func text[T any](l []T) string {
	if len(l) <= 12 {
		return fmt.Sprint(l)
	}
	return fmt.Sprintf("%v.. (%d)", l[:4], len(l))
}

func show(h H) string {
	return fmt.Sprintf("{%d %x %d %d %x %s %s %s %s}", h.Schema, h.Zero, h.ZeroCount, h.Count, h.Sum, text(h.Pos), text(h.PosDeltas), text(h.Neg), text(h.NegDeltas))
}

// walked: what Walk tells.
func walked(h H) []B {
	var l []B
	for b := range hist.Walk(h) {
		l = append(l, b)
	}
	return l
}

// The models: the chapter's words, by other means.

// sums: in numbers of any size.
func sums(deltas []int64) []*big.Int {
	var l []*big.Int
	sum := new(big.Int)
	for _, d := range deltas {
		sum = new(big.Int).Add(sum, big.NewInt(d))
		l = append(l, sum)
	}
	return l
}

// modelSide: a side's places with their counts, or its error.
func modelSide(l []S, deltas []int64) ([]P, api.Errno) {
	places, e := span.Places(l)
	if e != api.OK {
		return nil, e
	}
	if len(places) != len(deltas) {
		return nil, api.ErrLayout
	}
	var side []P
	counts := sums(deltas)
	for i, n := range counts {
		if !n.IsInt64() {
			return nil, api.ErrOverflow
		}
		side = append(side, P{Place: places[i], V: n.Int64()})
	}
	if slices.ContainsFunc(counts, func(n *big.Int) bool { return n.Sign() < 0 }) {
		return nil, api.ErrCount
	}
	return side, api.OK
}

// model: both sides, or Check's error.
func model(h H) (pos, neg []P, e api.Errno) {
	if h.Schema < -4 || h.Schema > 8 {
		return nil, nil, api.ErrSchema
	}
	if zero := math.Float64frombits(h.Zero); math.Signbit(zero) || math.IsNaN(zero) || math.IsInf(zero, 0) {
		return nil, nil, api.ErrRange
	}
	if pos, e = modelSide(h.Pos, h.PosDeltas); e != api.OK {
		return nil, nil, e
	}
	if neg, e = modelSide(h.Neg, h.NegDeltas); e != api.OK {
		return nil, nil, e
	}
	total := new(big.Int).SetUint64(h.ZeroCount)
	for _, p := range slices.Concat(pos, neg) {
		total.Add(total, big.NewInt(p.V))
	}
	switch total.Cmp(new(big.Int).SetUint64(h.Count)) {
	case 0:
		return pos, neg, api.OK
	case -1:
		if math.IsNaN(math.Float64frombits(h.Sum)) {
			return pos, neg, api.OK
		}
	}
	return nil, nil, api.ErrCount
}

// modelWalk: all buckets as one list from the left to the right, and then those that have something.
func modelWalk(h H) []B {
	pos, neg, e := model(h)
	if e != api.OK {
		return nil
	}
	var l []B
	for i := range neg {
		p := neg[len(neg)-1-i]
		l = append(l, B{Side: 1, Place: p.Place, N: uint64(p.V)})
	}
	l = append(l, B{Side: 2, N: h.ZeroCount})
	for _, p := range pos {
		l = append(l, B{Side: 0, Place: p.Place, N: uint64(p.V)})
	}
	return slices.DeleteFunc(l, func(b B) bool { return b.N == 0 })
}

// byPlace: what each place has, but for those that have nothing.
func byPlace(l []P) map[int]int64 {
	m := map[int]int64{}
	for _, p := range l {
		if p.V != 0 {
			m[p.Place] = p.V
		}
	}
	return m
}

// modelEqual: place by place.
func modelEqual(a, b H) bool {
	aPos, aNeg, e := model(a)
	bPos, bNeg, f := model(b)
	return e == api.OK && f == api.OK && numbersOf(a) == numbersOf(b) && maps.Equal(byPlace(aPos), byPlace(bPos)) && maps.Equal(byPlace(aNeg), byPlace(bNeg))
}

// modelOver: counts by places, looked up.
func modelOver(h H, pos, neg []S) (H, api.Errno) {
	ownPos, ownNeg, e := model(h)
	if e != api.OK {
		return H{}, e
	}
	if e := span.Check(pos); e != api.OK {
		return H{}, e
	}
	if e := span.Check(neg); e != api.OK {
		return H{}, e
	}
	for i, own := range [][]P{ownPos, ownNeg} {
		for _, p := range own {
			if !span.Has([][]S{pos, neg}[i], p.Place) {
				return H{}, api.ErrLayout
			}
		}
	}
	h.Pos, h.Neg = pos, neg
	h.PosDeltas, h.NegDeltas = lookedUp(ownPos, pos), lookedUp(ownNeg, neg)
	return h, api.OK
}

// lookedUp: the counts of spans' places, as differences.
func lookedUp(own []P, l []S) []int64 {
	var deltas []int64
	ahead := int64(0)
	m := byPlace(own)
	for _, place := range span.All(l) {
		deltas = append(deltas, m[place]-ahead)
		ahead = m[place]
	}
	return deltas
}

// wantRight: a histogram that is right, so all calls tell that ask.
func wantRight(t *testing.T, h H) {
	t.Helper()
	pos, neg, e := model(h)
	if e != api.OK {
		t.Fatalf("the model refuses %s: %d", show(h), e)
	}
	if e := hist.Check(h); e != api.OK {
		t.Errorf("Check(%s): %d", show(h), e)
	}
	wantPairs(t, h, hist.Positive, pos)
	wantPairs(t, h, hist.Negative, neg)
	if !hist.Equal(h, h) {
		t.Errorf("Equal(%s) of itself", show(h))
	}
	if got := walked(h); !slices.Equal(got, modelWalk(h)) {
		t.Errorf("Walk(%s): %s", show(h), text(got))
	}
	wantOver(t, h, h.Pos, h.Neg, h)
	if c, e := hist.Canon(h); e == api.OK {
		wantCanonOf(t, h, c)
	} else if e != api.ErrMany || !one(c, H{}) {
		t.Errorf("Canon(%s): %s, %d", show(h), show(c), e)
	}
}

// wantPairs: a side's places and counts.
func wantPairs(t *testing.T, h H, side int, want []P) {
	t.Helper()
	if got, e := hist.Pairs(h, side); e != api.OK || !slices.Equal(got, want) {
		t.Errorf("Pairs(%s, %d): %s, %d; want %s", show(h), side, text(got), e, text(want))
	}
}

// wantCanonOf: the same counts, on spans that are canonical, and no bucket that is empty.
func wantCanonOf(t *testing.T, h, c H) {
	t.Helper()
	pos, neg, e := model(c)
	if e != api.OK || !span.Canonical(c.Pos) || !span.Canonical(c.Neg) || !modelEqual(c, h) || len(byPlace(pos)) != len(pos) || len(byPlace(neg)) != len(neg) {
		t.Errorf("Canon(%s): %s", show(h), show(c))
	}
}

// wantWrong: an error, and nothing else, so all calls tell that ask.
func wantWrong(t *testing.T, h H, want api.Errno) {
	t.Helper()
	if e := hist.Check(h); e != want {
		t.Errorf("Check(%s): %d; want %d", show(h), e, want)
	}
	for _, side := range []int{hist.Positive, hist.Negative} {
		if got, e := hist.Pairs(h, side); e != want || len(got) != 0 {
			t.Errorf("Pairs(%s, %d): %s, %d; want %d", show(h), side, text(got), e, want)
		}
	}
	if got, e := hist.Canon(h); e != want || !one(got, H{}) {
		t.Errorf("Canon(%s): %s, %d; want %d", show(h), show(got), e, want)
	}
	for _, l := range [][]S{nil, list(-9, 99), h.Pos, h.Neg, list(0, -1), spans(api.MaxSpans+1, S{})} {
		wantOverRefused(t, h, l, l, want)
	}
	for _, other := range []H{h, some(), {}} {
		if hist.Equal(h, other) || hist.Equal(other, h) {
			t.Errorf("Equal(%s, %s)", show(h), show(other))
		}
	}
	if got := walked(h); len(got) != 0 {
		t.Errorf("Walk(%s): %s", show(h), text(got))
	}
	if _, _, e := model(h); e != want {
		t.Errorf("the model tells %d of %s", e, show(h))
	}
}

// wantMade: what comes of places and counts.
func wantMade(t *testing.T, h H, pos, neg []P, want H) {
	t.Helper()
	got, e := hist.Make(h, pos, neg)
	if e != api.OK || !one(got, want) {
		t.Errorf("Make(%s, %s, %s): %s, %d; want %s", show(h), text(pos), text(neg), show(got), e, show(want))
	}
	wantPairs(t, got, hist.Positive, pos)
	wantPairs(t, got, hist.Negative, neg)
}

// wantMadeRefused: an error, and nothing else.
func wantMadeRefused(t *testing.T, h H, pos, neg []P, want api.Errno) {
	t.Helper()
	if got, e := hist.Make(h, pos, neg); e != want || !one(got, H{}) {
		t.Errorf("Make(%s, %s, %s): %s, %d; want %d", show(h), text(pos), text(neg), show(got), e, want)
	}
}

// wantCanon: just that one, which is its own Canon.
func wantCanon(t *testing.T, h, want H) {
	t.Helper()
	for _, x := range []H{h, want} {
		if got, e := hist.Canon(x); e != api.OK || !one(got, want) {
			t.Errorf("Canon(%s): %s, %d; want %s", show(x), show(got), e, show(want))
		}
	}
	wantCanonOf(t, h, want)
	if !hist.Equal(h, want) || !hist.Equal(want, h) {
		t.Errorf("Equal(%s, %s)", show(h), show(want))
	}
}

// wantOver: just that one.
func wantOver(t *testing.T, h H, pos, neg []S, want H) {
	t.Helper()
	got, e := hist.Over(h, pos, neg)
	if e != api.OK || !one(got, want) {
		t.Errorf("Over(%s, %s, %s): %s, %d; want %s", show(h), text(pos), text(neg), show(got), e, show(want))
	}
	if !hist.Equal(h, got) {
		t.Errorf("Over(%s, %s, %s): %s counts otherwise", show(h), text(pos), text(neg), show(got))
	}
}

// wantOverRefused: an error, and nothing else.
func wantOverRefused(t *testing.T, h H, pos, neg []S, want api.Errno) {
	t.Helper()
	if got, e := hist.Over(h, pos, neg); e != want || !one(got, H{}) {
		t.Errorf("Over(%s, %s, %s): %s, %d; want %d", show(h), text(pos), text(neg), show(got), e, want)
	}
}

// P9.1: NaN, Threshold

func TestBits(t *testing.T) {
	for _, c := range []struct {
		v              uint64
		nan, threshold bool
	}{
		{0, false, true}, {1, false, true}, {0x000fffffffffffff, false, true}, {0x3ff0000000000000, false, true},
		{infinite - 1, false, true}, {infinite, false, false}, {infinite + 1, true, false}, {noNumber, true, false}, {sign - 1, true, false},
		{sign, false, false}, {sign | 1, false, false}, {sign | 0x3ff0000000000000, false, false},
		{sign | infinite - 1, false, false}, {sign | infinite, false, false}, {sign | infinite + 1, true, false}, {sign | noNumber, true, false}, {all, true, false},
	} {
		if got := hist.NaN(c.v); got != c.nan {
			t.Errorf("NaN(%x): %v", c.v, got)
		}
		if got := hist.Threshold(c.v); got != c.threshold {
			t.Errorf("Threshold(%x): %v", c.v, got)
		}
	}
}

func TestBitsAreThoseOfFloats(t *testing.T) {
	random := rand.New(rand.NewSource(1))
	for range 100000 {
		v := random.Uint64()
		if random.Intn(2) == 0 {
			v = v&sign | infinite + uint64(random.Intn(5)) - 2
		}
		f := math.Float64frombits(v)
		if hist.NaN(v) != math.IsNaN(f) || hist.Threshold(v) != (!math.Signbit(f) && !math.IsNaN(f) && !math.IsInf(f, 0)) {
			t.Errorf("%x: %v, %v", v, hist.NaN(v), hist.Threshold(v))
		}
	}
}

// P9.1: Check

func TestSidesByNumber(t *testing.T) {
	if hist.Positive != 0 || hist.Negative != 1 || hist.Nought != 2 {
		t.Errorf("sides: %d, %d, %d", hist.Positive, hist.Negative, hist.Nought)
	}
}

func TestRightHistograms(t *testing.T) {
	for _, h := range []H{
		{}, some(), flipped(some()), {Pos: list(3, 2), PosDeltas: d(5, -5), ZeroCount: 1, Count: 6},
		{ZeroCount: 7, Count: 7}, {Schema: -4}, {Schema: 8}, {Zero: infinite - 1}, {Count: 9, Sum: noNumber}, {Count: all, Sum: sign | noNumber},
		{Sum: infinite}, {Sum: sign | infinite}, {Sum: sign}, {Pos: []S{}, Neg: []S{}, PosDeltas: []int64{}, NegDeltas: []int64{}},
	} {
		wantRight(t, h)
	}
}

func TestSchemas(t *testing.T) {
	for schema := -4; schema <= 8; schema++ {
		wantRight(t, turned(func(h *H) { h.Schema = schema }))
	}
	for _, schema := range []int{-5, 9, -100, 100, math.MinInt, math.MaxInt, 1 << 32, -1 << 32, 1<<32 + 3} {
		wantWrong(t, turned(func(h *H) { h.Schema = schema }), api.ErrSchema)
	}
}

func TestThresholds(t *testing.T) {
	for _, zero := range []uint64{0, 1, 0x3ff0000000000000, infinite - 1} {
		wantRight(t, turned(func(h *H) { h.Zero = zero }))
	}
	for _, zero := range []uint64{infinite, infinite + 1, noNumber, sign - 1, sign, sign | 1, sign | infinite - 1, sign | infinite, all} {
		wantWrong(t, turned(func(h *H) { h.Zero = zero }), api.ErrRange)
	}
}

// bothWays: a turn on the positive side, and the same one on the negative.
func bothWays(turn func(h *H)) [2]H {
	return [2]H{turned(turn), flipped(turned(turn))}
}

func TestSpansOfASide(t *testing.T) {
	for _, c := range []struct {
		l []S
		e api.Errno
	}{
		// otherwise cut: touching, without places
		{list(-1, 1, 0, 1, 3, 1), api.OK},
		{list(-9, 0, 8, 1, 0, 0, 0, 1, 1, 0, 2, 1, 99, 0), api.OK},
		{append(list(-1, 2, 3, 1), spans(api.MaxSpans-2, S{})...), api.OK},
		{list(far-6, 3), api.OK},
		{list(-far, 1, 2*far-2, 2), api.OK},
		// wrong
		{list(-1, 2, -1, 1), api.ErrSpan},
		{list(-1, 3, 0, -1), api.ErrSpan},
		{list(-1, 2, 3, 1, -1, 0), api.ErrSpan},
		{list(far-1, 3), api.ErrSpan},
		{list(-far-1, 3), api.ErrSpan},
		{list(far+1, 0, 0, 3), api.ErrSpan},
		{list(0, most+1), api.ErrSpan},
		{list(0, most, 0, 1), api.ErrSpan},
		{list(math.MaxInt, math.MaxInt, math.MaxInt, math.MaxInt), api.ErrSpan},
		{list(math.MinInt, math.MinInt), api.ErrSpan},
		// too many
		{append(list(-1, 2, 3, 1), spans(api.MaxSpans-1, S{})...), api.ErrMany},
		{spans(api.MaxSpans+1, S{}), api.ErrMany},
		{spans(api.MaxSpans+1, sp(-1, -1)), api.ErrMany},
	} {
		for _, h := range bothWays(func(h *H) { h.Pos = c.l }) {
			if c.e == api.OK {
				wantRight(t, h)
			} else {
				wantWrong(t, h, c.e)
			}
		}
	}
}

func TestAsManyDifferencesAsPlaces(t *testing.T) {
	for _, c := range []struct {
		l      []S
		deltas []int64
	}{
		{list(-1, 2, 3, 1), d(3, -3)},
		{list(-1, 2, 3, 1), d(3, -3, 1, 0)},
		{list(-1, 2, 3, 1), nil},
		{list(-1, 2, 3, 1), d()},
		{nil, d(3)},
		{nil, d(0)},
		{list(5, 0), d(4)},
		{list(5, 1), nil},
		{list(0, most), make([]int64, most-1)},
		{list(0, most), make([]int64, most+1)},
		// differences that are wrong themselves are not looked at
		{list(-1, 2, 3, 1), d(top, 1)},
		{list(-1, 2, 3, 1), d(-1, 2, 3, 4)},
	} {
		for _, h := range bothWays(func(h *H) { h.Pos, h.PosDeltas = c.l, c.deltas }) {
			wantWrong(t, h, api.ErrLayout)
		}
	}
	wantRight(t, positive(list(0, most), make([]int64, most)))
	// as many of both sides together as there are places, but not on each
	wantWrong(t, turned(func(h *H) { h.PosDeltas, h.NegDeltas = d(3, -3), d(1, 0, 2) }), api.ErrLayout)
}

func TestDifferencesBeyond(t *testing.T) {
	for _, c := range []struct {
		deltas []int64
		e      api.Errno
	}{
		{d(top, 1, 0), api.ErrOverflow},
		{d(top, 1, -1), api.ErrOverflow},
		{d(top, -top, top), api.ErrCount}, // but not too great: it is all of them together that are
		{d(1, top, 0), api.ErrOverflow},
		{d(1, -1, top), api.ErrCount},
		{d(0, top, top), api.ErrOverflow},
		{d(bottom, -1, 0), api.ErrOverflow},
		{d(-1, bottom, 0), api.ErrOverflow},
		{d(bottom, bottom, 0), api.ErrOverflow},
		{d(bottom, 0, 0), api.ErrCount},
		{d(bottom, top, 1), api.ErrCount},
		{d(-1, 2, 3), api.ErrCount},
		{d(3, -4, 5), api.ErrCount},
		{d(3, -3, -1), api.ErrCount},
		{d(3, -4, top), api.ErrCount},
		// ErrOverflow is ahead of a count below 0, wherever that is
		{d(-1, 0, bottom), api.ErrOverflow},
		{d(-1, top, 2), api.ErrOverflow},
	} {
		for _, h := range bothWays(func(h *H) { h.PosDeltas = c.deltas }) {
			wantWrong(t, h, c.e)
		}
	}
	// sums that come to just the end
	for _, h := range []H{positive(list(0, 1), d(top)), positive(list(0, 3), d(top, -top, 1)), positive(list(0, 2), d(1, top-1)), positive(list(0, 3), d(top, 0, -top))} {
		wantRight(t, h)
		wantRight(t, flipped(h))
	}
}

func TestTotals(t *testing.T) {
	for _, sum := range []uint64{0, sign, 1, infinite, sign | infinite, infinite - 1} {
		wantRight(t, turned(func(h *H) { h.Sum = sum }))
		for _, count := range []uint64{0, 1, 9, 11, all} {
			wantWrong(t, turned(func(h *H) { h.Sum, h.Count = sum, count }), api.ErrCount)
		}
	}
	for _, sum := range []uint64{noNumber, infinite + 1, sign | infinite + 1, sign - 1, all} {
		for _, count := range []uint64{10, 11, 12, all - 1, all} {
			wantRight(t, turned(func(h *H) { h.Sum, h.Count = sum, count }))
		}
		for _, count := range []uint64{0, 1, 2, 9} {
			wantWrong(t, turned(func(h *H) { h.Sum, h.Count = sum, count }), api.ErrCount)
		}
	}
	for _, zeroCount := range []uint64{0, 1, 3, all} {
		wantWrong(t, turned(func(h *H) { h.ZeroCount = zeroCount }), api.ErrCount)
	}
	wantWrong(t, turned(func(h *H) { h.PosDeltas = d(3, -3, 2) }), api.ErrCount)
	wantWrong(t, turned(func(h *H) { h.NegDeltas = d(1, 1) }), api.ErrCount)
	wantRight(t, turned(func(h *H) { h.PosDeltas, h.ZeroCount = d(3, -3, 2), 1 }))
}

func TestTotalsBeyond(t *testing.T) {
	// top and top is 2^64 - 2: one more is just the greatest number, two more go round.
	two, halves := list(0, 2), list(0, 3)
	for _, sum := range []uint64{0, noNumber} {
		for _, h := range []H{
			{ZeroCount: all, Count: all},
			{ZeroCount: 1, Count: all, Pos: two, PosDeltas: d(top, 0)},
			{Count: all, Pos: halves, PosDeltas: d(top, 0, 1-top)},
			{Count: all, Pos: list(4, 1), PosDeltas: d(top), Neg: two, NegDeltas: d(top, 1-top)},
			{ZeroCount: all - top, Count: all, Neg: list(4, 1), NegDeltas: d(top)},
			{Count: all - 1, Pos: two, PosDeltas: d(top, 0)},
		} {
			h.Sum = sum
			wantRight(t, h)
			wantRight(t, flipped(h))
			h.Count--
			wantWrong(t, h, api.ErrCount)
			wantWrong(t, flipped(h), api.ErrCount)
		}
		for _, h := range []H{
			{ZeroCount: all, Pos: list(4, 1), PosDeltas: d(1)},
			{ZeroCount: all, Pos: list(4, 1), PosDeltas: d(top)},
			{ZeroCount: 2, Pos: two, PosDeltas: d(top, 0)},
			{ZeroCount: 3, Pos: two, PosDeltas: d(top, 0)},
			{Pos: halves, PosDeltas: d(top, 0, 2-top)},
			{Pos: halves, PosDeltas: d(top, 0, 0)},
			{Pos: list(0, 4), PosDeltas: d(top, 0, 0, 0)},
			{Pos: list(0, 5), PosDeltas: d(top, 0, 0, 0, 4-top)},
			{Pos: list(4, 1), PosDeltas: d(top), Neg: halves, NegDeltas: d(top, 2-top, 0)},
			{ZeroCount: all - top + 1, Neg: list(4, 1), NegDeltas: d(top)},
		} {
			for _, count := range []uint64{0, 1, 2, top, all - 1, all} {
				h.Sum, h.Count = sum, count
				wantWrong(t, h, api.ErrCount)
				wantWrong(t, flipped(h), api.ErrCount)
			}
		}
	}
}

// fault: a turn, and what is told of it.
type fault struct {
	name string
	e    api.Errno
	turn func(h *H)
}

// faults: in the order in which they are told. Those of one side's differences leave the others' error in place, where both may be.
func faults() []fault {
	side := func(name string, flip func(h *H)) []fault {
		on := func(turn func(h *H)) func(h *H) {
			return func(h *H) { flip(h); turn(h); flip(h) }
		}
		return []fault{
			{name + " spans", api.ErrSpan, on(func(h *H) { h.Pos = list(-1, 3, 0, -1) })},
			{name + " layout", api.ErrLayout, on(func(h *H) { h.PosDeltas = append(slices.Clone(h.PosDeltas), 1) })},
			{name + " overflow", api.ErrOverflow, on(func(h *H) { h.PosDeltas = append(d(bottom, -1), make([]int64, len(h.PosDeltas)-2)...) })},
			{name + " below nought", api.ErrCount, on(func(h *H) { h.PosDeltas = append(d(-1, 9), make([]int64, len(h.PosDeltas)-2)...) })},
		}
	}
	return slices.Concat(
		[]fault{{"schema", api.ErrSchema, func(h *H) { h.Schema = 9 }}, {"threshold", api.ErrRange, func(h *H) { h.Zero = sign }}},
		side("positive", func(h *H) {}),
		side("negative", func(h *H) { *h = flipped(*h) }),
		[]fault{{"total", api.ErrCount, func(h *H) { h.Count = 1 }}},
	)
}

func TestEachErrorAheadOfTheLaterOnes(t *testing.T) {
	l := faults()
	for i, first := range l {
		wantWrong(t, turned(first.turn), first.e)
		for _, later := range l[i+1:] {
			h := turned(later.turn, first.turn)
			if e := hist.Check(h); e != first.e {
				t.Errorf("%s ahead of %s: %d", first.name, later.name, e)
			}
			wantWrong(t, h, first.e)
		}
		// and ahead of all of them
		var turns []func(h *H)
		for _, later := range slices.Backward(l[i:]) {
			turns = append(turns, later.turn)
		}
		wantWrong(t, turned(turns...), first.e)
	}
	// ErrMany is layer 6's too, and as far ahead
	many := func(h *H) { h.Pos = spans(api.MaxSpans+1, S{}) }
	for i, f := range l {
		want := api.ErrMany
		if i < 2 {
			want = f.e
		}
		wantWrong(t, turned(f.turn, many), want)
	}
	wantWrong(t, turned(func(h *H) { h.Neg = spans(api.MaxSpans+1, S{}); h.Pos = list(-1, 3, 0, -1) }), api.ErrSpan)
	wantWrong(t, turned(func(h *H) { h.Neg = list(5, 3, 0, -1) }, many), api.ErrMany)
}

// P9.2: Pairs

func TestPairs(t *testing.T) {
	for _, c := range []struct {
		h        H
		pos, neg []P
	}{
		{some(), at(-1, 3, 0, 0, 4, 1), at(5, 1, 6, 3)},
		{flipped(some()), at(5, 1, 6, 3), at(-1, 3, 0, 0, 4, 1)},
		{H{}, nil, nil},
		{H{ZeroCount: 4, Count: 4}, nil, nil},
		{H{Pos: list(3, 0), Neg: list(1, 0, 1, 0)}, nil, nil},
		{H{Pos: list(-far, 1, 2*far-1, 1), PosDeltas: d(0, 0)}, at(-far, 0, far, 0), nil},
		{H{Pos: list(3, 2), PosDeltas: d(5, -5), ZeroCount: 1, Count: 6}, at(3, 5, 4, 0), nil},
		{H{Count: top, Neg: list(7, 1, 0, 0, 0, 2), NegDeltas: d(0, top, -top)}, nil, at(7, 0, 8, top, 9, 0)},
	} {
		wantPairs(t, c.h, hist.Positive, c.pos)
		wantPairs(t, c.h, hist.Negative, c.neg)
	}
}

func TestPairsOfNoSide(t *testing.T) {
	wrong := turned(func(h *H) { h.Schema = 99 })
	for _, side := range []int{hist.Nought, 2, 3, -1, math.MinInt, math.MaxInt, 1 << 32} {
		for _, h := range []H{{}, some(), wrong, turned(func(h *H) { h.Count = 1 })} {
			if got, e := hist.Pairs(h, side); e != api.ErrRange || len(got) != 0 {
				t.Errorf("Pairs(%s, %d): %s, %d", show(h), side, text(got), e)
			}
		}
	}
}

// P9.2: Make

func TestMake(t *testing.T) {
	h := some()
	for _, c := range []struct {
		count    uint64
		pos, neg []P
		l, m     []S
		x, y     []int64
	}{
		{2, nil, nil, nil, nil, nil, nil},
		{2, []P{}, []P{}, nil, nil, nil, nil},
		{7, at(3, 5), nil, list(3, 1), nil, d(5), nil},
		{7, nil, at(-3, 5), nil, list(-3, 1), nil, d(5)},
		{10, at(-1, 3, 0, 0, 4, 1), at(5, 1, 6, 3), list(-1, 2, 3, 1), list(5, 2), d(3, -3, 1), d(1, 2)},
		{2, at(1, 0, 2, 0), at(9, 0), list(1, 2), list(9, 1), d(0, 0), d(0)},
		{4, at(-far, 1, far, 1), nil, list(-far, 1, 2*far-1, 1), nil, d(1, 0), nil},
		{2 + top, at(0, top), nil, list(0, 1), nil, d(top), nil},
		{all, at(0, top, 1, 0), at(0, top-1), list(0, 2), list(0, 1), d(top, -top), d(top - 1)},
		// the same list for both
		{12, at(3, 5), at(3, 5), list(3, 1), list(3, 1), d(5), d(5)},
	} {
		own := h
		own.Count = c.count
		want := H{Schema: h.Schema, Zero: h.Zero, ZeroCount: h.ZeroCount, Sum: h.Sum, Count: c.count, Pos: c.l, Neg: c.m, PosDeltas: c.x, NegDeltas: c.y}
		wantMade(t, own, c.pos, c.neg, want)
		// what it had itself may be any
		own.Pos, own.PosDeltas, own.Neg, own.NegDeltas = list(0, -1), d(bottom, bottom), spans(api.MaxSpans+1, S{}), d(-1)
		wantMade(t, own, c.pos, c.neg, want)
	}
	same := at(3, 5)
	wantMade(t, H{Count: 10}, same, same, H{Count: 10, Pos: list(3, 1), Neg: list(3, 1), PosDeltas: d(5), NegDeltas: d(5)})
}

func TestMakeAtTheLimits(t *testing.T) {
	full := row(0, most, 1, 1)
	wantMade(t, H{Count: most}, full, nil, H{Count: most, Pos: list(0, most), PosDeltas: append(d(1), make([]int64, most-1)...)})
	wantMadeRefused(t, H{Count: most + 1}, row(0, most+1, 1, 1), nil, api.ErrMany)
	wantMadeRefused(t, H{Count: most + 1}, nil, row(0, most+1, 1, 1), api.ErrMany)
	n := api.MaxSpans
	apart := append(list(0, 1), spans(n-1, sp(1, 1))...)
	wantMade(t, H{Count: uint64(n)}, nil, row(0, n, 2, 1), H{Count: uint64(n), Neg: apart, NegDeltas: append(d(1), make([]int64, n-1)...)})
	wantMadeRefused(t, H{Count: uint64(n + 1)}, row(0, n+1, 2, 1), nil, api.ErrMany)
	wantMadeRefused(t, H{Count: uint64(n + 1)}, nil, row(0, n+1, 2, 1), api.ErrMany)
}

func TestMakeRefused(t *testing.T) {
	h := turned(func(h *H) { h.Count = 7 })
	right := at(3, 5)
	wantMade(t, h, right, nil, H{Schema: 3, Zero: 1, ZeroCount: 2, Count: 7, Sum: h.Sum, Pos: list(3, 1), PosDeltas: d(5)})
	falls := [][]P{at(1, 2, 1, 3), at(2, 2, 1, 3), at(far+1, 5), at(-far-1, 5), at(far, 5, far+1, 0), at(top, 5), at(bottom, 5), at(3, 5, 4, 0, 4, 0)}
	beyond := [][]P{at(1, -2, 2, top), at(1, top, 2, -2), at(1, bottom, 2, 1), at(1, 1, 2, bottom), at(1, bottom, 2, top)}
	below := [][]P{at(1, -1), at(1, bottom), at(1, 6, 2, -1), at(1, -1, 2, 6)}
	too := [][]P{at(1, 4), at(1, 6), at(1, 5, 2, 1), at(1, top), at(1, top, 2, top, 3, 7)}
	for _, c := range []struct {
		lists [][]P
		e     api.Errno
	}{{falls, api.ErrRange}, {beyond, api.ErrOverflow}, {below, api.ErrCount}, {too, api.ErrCount}} {
		for _, l := range c.lists {
			wantMadeRefused(t, h, l, nil, c.e)
			wantMadeRefused(t, h, nil, l, c.e)
			if c.e != api.ErrCount {
				wantMadeRefused(t, h, right, l, c.e)
				wantMadeRefused(t, h, l, right, c.e)
			}
		}
	}
	// both together too many
	wantMadeRefused(t, h, right, right, api.ErrCount)
	wantMadeRefused(t, h, nil, nil, api.ErrCount)
	// a difference that is as far as it can be
	wantMadeRefused(t, h, at(1, -1, 2, top-1), nil, api.ErrCount)
	wantMadeRefused(t, h, at(1, 0, 2, bottom), nil, api.ErrCount)
}

func TestMakeErrorsInTheirOrder(t *testing.T) {
	falls, beyond, below, many := at(1, 2, 1, 3), at(1, -2, 2, top), at(1, -1), row(0, api.MaxSpans+1, 2, 1)
	for _, h := range []H{some(), {Schema: 99}, {Zero: all}, {Schema: 99, Zero: all, Count: 1}} {
		for _, c := range []struct {
			pos, neg []P
			e        api.Errno
		}{
			{falls, falls, api.ErrRange}, {falls, beyond, api.ErrRange}, {falls, many, api.ErrRange}, {falls, below, api.ErrRange},
			{many, falls, api.ErrMany}, {many, beyond, api.ErrMany},
			{beyond, falls, api.ErrOverflow}, {beyond, many, api.ErrOverflow}, {beyond, below, api.ErrOverflow},
			{below, falls, api.ErrRange}, {below, many, api.ErrMany}, {below, beyond, api.ErrOverflow}, {nil, falls, api.ErrRange},
			// places that fall, with differences beyond: the places are asked first
			{at(2, -2, 1, top), nil, api.ErrRange}, {nil, at(2, -2, 1, top), api.ErrRange},
			{append(row(0, api.MaxSpans, 2, -2), P{Place: far, V: top}), nil, api.ErrMany},
		} {
			wantMadeRefused(t, h, c.pos, c.neg, c.e)
		}
	}
	// Check's errors, of what comes
	wantMadeRefused(t, H{Schema: 9, Zero: all}, below, nil, api.ErrSchema)
	wantMadeRefused(t, H{Schema: -5}, nil, nil, api.ErrSchema)
	wantMadeRefused(t, H{Zero: infinite}, below, nil, api.ErrRange)
	wantMadeRefused(t, H{Zero: sign}, nil, nil, api.ErrRange)
	wantMadeRefused(t, H{Count: 1}, nil, nil, api.ErrCount)
	wantMade(t, H{Count: 1, Sum: noNumber}, nil, nil, H{Count: 1, Sum: noNumber})
}

// P9.3: Canon

func TestCanonOfTheChapter(t *testing.T) {
	h := H{Pos: list(3, 2), PosDeltas: d(5, -5), ZeroCount: 1, Count: 6}
	wantCanon(t, h, H{Pos: list(3, 1), PosDeltas: d(5), ZeroCount: 1, Count: 6})
}

func TestCanon(t *testing.T) {
	for _, c := range []struct {
		l      []S
		deltas []int64
		want   []S
		left   []int64
	}{
		// none
		{nil, nil, nil, nil},
		{[]S{}, []int64{}, nil, nil},
		{list(7, 0, 3, 0), nil, nil, nil},
		// empty ones only
		{list(7, 1), d(0), nil, nil},
		{list(7, 3, 5, 2), d(0, 0, 0, 0, 0), nil, nil},
		// at the ends, and between
		{list(7, 3), d(0, 2, 3), list(8, 2), d(2, 3)},
		{list(7, 3), d(2, 3, -5), list(7, 2), d(2, 3)},
		{list(7, 3), d(0, 5, -5), list(8, 1), d(5)},
		{list(7, 3), d(5, -5, 1), list(7, 1, 1, 1), d(5, -4)},
		{list(7, 5), d(0, 4, -4, 6, -6), list(8, 1, 1, 1), d(4, 2)},
		{list(-2, 2, 3, 2), d(1, -1, 0, 2), list(-2, 1, 5, 1), d(1, 1)},
		{list(-far, 1, 2*far-1, 1), d(0, 3), list(far, 1), d(3)},
		// none empty: spans that touch or have no places become one
		{list(7, 2, 0, 1), d(1, 1, 1), list(7, 3), d(1, 1, 1)},
		{list(7, 0, 0, 1, 0, 0, 2, 1, 9, 0), d(1, 1), list(7, 1, 2, 1), d(1, 1)},
		// canonical
		{list(7, 2), d(1, 1), list(7, 2), d(1, 1)},
		{list(7, 2, 1, 1), d(1, 1, -1), list(7, 2, 1, 1), d(1, 1, -1)},
		// the greatest counts
		{list(7, 3), d(top, -top, 1), list(7, 1, 1, 1), d(top, 1-top)},
	} {
		h, want := positive(c.l, c.deltas), positive(c.want, c.left)
		h.Schema, h.Zero, h.Sum, want.Schema, want.Zero, want.Sum = -2, 5, 9, -2, 5, 9
		wantCanon(t, h, want)
		wantCanon(t, flipped(h), flipped(want))
	}
	// both sides, each on its own
	wantCanon(t, some(), turned(func(h *H) { h.Pos, h.PosDeltas = list(-1, 1, 4, 1), d(3, -2) }))
	wantCanon(t, flipped(some()), flipped(turned(func(h *H) { h.Pos, h.PosDeltas = list(-1, 1, 4, 1), d(3, -2) })))
}

// alternating: n buckets that have one and nothing by turns, from a first place on.
func alternating(n int) H {
	var deltas []int64
	for i := range n {
		deltas = append(deltas, int64(1-2*(i%2)))
	}
	return positive(list(0, n), deltas)
}

func TestCanonOfTooManySpans(t *testing.T) {
	n := api.MaxSpans
	just := alternating(2 * n)
	want := positive(append(list(0, 1), spans(n-1, sp(1, 1))...), append(d(1), make([]int64, n-1)...))
	wantCanon(t, just, want)
	wantCanon(t, flipped(just), flipped(want))
	wantCanon(t, alternating(2*n-1), want)
	for _, h := range []H{alternating(2*n + 1), alternating(2*n + 2), alternating(most)} {
		for _, x := range []H{h, flipped(h)} {
			wantRight(t, x)
			if got, e := hist.Canon(x); e != api.ErrMany || !one(got, H{}) {
				t.Errorf("Canon(%s): %s, %d", show(x), show(got), e)
			}
			if !hist.Equal(x, x) {
				t.Errorf("Equal(%s) of itself", show(x))
			}
		}
	}
	// one that is canonical, of as many spans
	wantCanon(t, want, want)
}

// P9.3: Over

func TestOver(t *testing.T) {
	h := some()
	for _, c := range []struct {
		pos, neg []S
		x, y     []int64
	}{
		// the same spans
		{h.Pos, h.Neg, h.PosDeltas, h.NegDeltas},
		// more: ahead, between, behind
		{list(-2, 7), list(5, 2), d(0, 3, -3, 0, 0, 0, 1), d(1, 2)},
		{list(-1, 2, 1, 1, 1, 1), list(4, 3), d(3, -3, 0, 1), d(0, 1, 2)},
		{list(-1, 2, 3, 2, 1, 1), list(5, 3), d(3, -3, 1, -1, 0), d(1, 2, -3)},
		{list(-far, 1, far-2, 2, 3, 1, far-5, 1), list(-9, 3, 11, 2, 7, 2), d(0, 3, -3, 1, -1), d(0, 0, 0, 1, 2, -3, 0)},
		// otherwise cut, and without places
		{list(-1, 1, 0, 1, 3, 1), list(5, 1, 0, 1), h.PosDeltas, h.NegDeltas},
		{list(-7, 0, 6, 2, 2, 0, 1, 1, 5, 0), list(5, 0, 0, 0, 0, 2, 0, 0), h.PosDeltas, h.NegDeltas},
		{list(-1, 1, 0, 0, 0, 2, 0, 0, 2, 1), list(5, 2, far-8, 1, 0, 0), d(3, -3, 0, 1), d(1, 2, -3)},
	} {
		want := h
		want.Pos, want.Neg, want.PosDeltas, want.NegDeltas = c.pos, c.neg, c.x, c.y
		wantOver(t, h, c.pos, c.neg, want)
		wantOver(t, flipped(h), c.neg, c.pos, flipped(want))
	}
}

func TestOverOfNone(t *testing.T) {
	for _, none := range []H{{}, {ZeroCount: 3, Count: 3}, {Count: 5, Sum: noNumber}, {Pos: list(4, 0), Neg: list(1, 0)}} {
		for _, c := range [][2][]S{{nil, nil}, {list(3, 2), nil}, {nil, list(3, 2)}, {list(3, 0), list(0, most)}, {spans(api.MaxSpans, S{}), spans(api.MaxSpans, sp(1, 1))}} {
			want := none
			want.Pos, want.PosDeltas = c[0], make([]int64, span.Count(c[0]))
			want.Neg, want.NegDeltas = c[1], make([]int64, span.Count(c[1]))
			wantOver(t, none, c[0], c[1], want)
		}
	}
	// the greatest counts, and nothing between: differences as far as they can be
	h := positive(list(0, 2), d(top, 0))
	wantOver(t, h, list(-1, 4), nil, positive(list(-1, 4), d(0, top, 0, -top)))
	h = H{Count: all - 1, Pos: list(0, 1, 1, 1), PosDeltas: d(top, 0)}
	wantOver(t, h, list(0, 3), list(9, 1), H{Count: all - 1, Pos: list(0, 3), PosDeltas: d(top, -top, top), Neg: list(9, 1), NegDeltas: d(0)})
}

func TestOverRefused(t *testing.T) {
	h := some()
	// a place fewer, an empty bucket's too, on either side
	for _, l := range [][]S{nil, list(-1, 0), list(-1, 2), list(-1, 1, 4, 1), list(0, 1, 3, 1), list(-1, 5), list(0, 9), list(5, 9), list(-far, 5), list(-1, 2, 4, 1)} {
		wantOverRefused(t, h, l, h.Neg, api.ErrLayout)
		wantOverRefused(t, h, l, nil, api.ErrLayout)
		wantOverRefused(t, flipped(h), h.Neg, l, api.ErrLayout)
		// other sides' places are no places of this one
		wantOverRefused(t, h, l, list(-9, 99), api.ErrLayout)
	}
	for _, l := range [][]S{nil, list(5, 1), list(6, 1), list(5, 1, 1, 1), list(4, 2), list(6, 7), list(-1, 2, 3, 1)} {
		wantOverRefused(t, h, h.Pos, l, api.ErrLayout)
		wantOverRefused(t, h, list(-9, 99), l, api.ErrLayout)
		wantOverRefused(t, flipped(h), l, h.Pos, api.ErrLayout)
	}
	empty := H{Pos: list(3, 1), PosDeltas: d(0)}
	wantOverRefused(t, empty, nil, nil, api.ErrLayout)
	wantOverRefused(t, empty, list(2, 1, 1, 1), nil, api.ErrLayout)
	wantOverRefused(t, flipped(empty), list(3, 1), nil, api.ErrLayout)
	wantOver(t, empty, list(3, 1), nil, empty)
}

func TestOverWrongSpans(t *testing.T) {
	h := some()
	wrong := [][]S{
		list(0, -1), list(-1, 2, -1, 1), list(-9, 99, 0, -1), list(far+1, 0), list(-far-1, 99), list(far, 2), list(0, most+1), list(-9, most, 0, 1),
		list(math.MinInt, math.MinInt), list(math.MaxInt, math.MaxInt, math.MaxInt, math.MaxInt),
	}
	many := [][]S{spans(api.MaxSpans+1, S{}), spans(api.MaxSpans+1, sp(1, 1)), spans(api.MaxSpans+1, sp(-1, -1))}
	for _, x := range []H{h, flipped(h), {}} {
		for _, right := range [][]S{list(-9, 99), nil, list(40, 1)} { // where places are missing, too: ErrLayout comes later
			for _, l := range wrong {
				wantOverRefused(t, x, l, right, api.ErrSpan)
				wantOverRefused(t, x, right, l, api.ErrSpan)
				for _, m := range many {
					wantOverRefused(t, x, l, m, api.ErrSpan)
					wantOverRefused(t, x, m, l, api.ErrMany)
				}
			}
			for _, m := range many {
				wantOverRefused(t, x, m, right, api.ErrMany)
				wantOverRefused(t, x, right, m, api.ErrMany)
			}
		}
	}
}

// P9.4: Equal

func TestEqual(t *testing.T) {
	// the same counts, with other spans and empty buckets
	alike := []H{
		some(),
		turned(func(h *H) { h.Pos, h.PosDeltas = list(-1, 1, 4, 1), d(3, -2) }),
		turned(func(h *H) { h.Pos, h.PosDeltas = list(-1, 1, 0, 1, 3, 1), d(3, -3, 1) }),
		turned(func(h *H) { h.Pos, h.PosDeltas = list(-3, 9, 100, 1), d(0, 0, 3, -3, 0, 0, 0, 1, -1, 0) }),
		turned(func(h *H) { h.Neg, h.NegDeltas = list(5, 1, 0, 0, 0, 1, 4, 0), d(1, 2) }),
		turned(func(h *H) { h.Neg, h.NegDeltas = list(-far, 1, far+4, 2, far-7, 1), d(0, 1, 2, -3) }),
	}
	for _, a := range alike {
		wantRight(t, a)
		for _, b := range alike {
			if !hist.Equal(a, b) {
				t.Errorf("Equal(%s, %s): false", show(a), show(b))
			}
		}
	}
	// what differs in one number, or at one place of one side
	others := []H{
		turned(func(h *H) { h.Schema++ }),
		turned(func(h *H) { h.Zero++ }),
		turned(func(h *H) { h.Sum++ }),
		turned(func(h *H) { h.Sum |= sign }),
		turned(func(h *H) { h.ZeroCount++; h.Count++ }),
		turned(func(h *H) { h.ZeroCount, h.PosDeltas = 1, d(3, -3, 2) }),
		turned(func(h *H) { h.ZeroCount, h.PosDeltas = 1, d(3, -2, 0) }),
		turned(func(h *H) { h.ZeroCount, h.NegDeltas = 1, d(1, 3) }),
		turned(func(h *H) { h.ZeroCount, h.NegDeltas = 3, d(0, 3) }),
		turned(func(h *H) { h.PosDeltas = d(1, -1, 3) }),
		turned(func(h *H) { h.PosDeltas = d(3, -2, -1) }),
		turned(func(h *H) { h.NegDeltas = d(3, -2) }),
		turned(func(h *H) { h.Pos = list(-1, 2, 4, 1) }),
		turned(func(h *H) { h.Pos = list(-2, 2, 4, 1) }),
		turned(func(h *H) { h.Neg = list(4, 2) }),
		turned(func(h *H) { h.Neg = list(5, 1, 1, 1) }),
		turned(func(h *H) { h.Pos, h.PosDeltas, h.ZeroCount = nil, nil, 6 }),
		turned(func(h *H) { h.Neg, h.NegDeltas, h.ZeroCount = nil, nil, 6 }),
		flipped(some()),
		{},
	}
	for _, b := range others {
		wantRight(t, b)
		for _, a := range alike {
			if hist.Equal(a, b) || hist.Equal(b, a) {
				t.Errorf("Equal(%s, %s)", show(a), show(b))
			}
		}
	}
}

func TestEqualOfNumbersAlone(t *testing.T) {
	// With a sum that is no number Count may be any above: each number by itself.
	base := H{Schema: 1, Zero: 2, ZeroCount: 3, Count: 9, Sum: noNumber}
	for i, turn := range []func(h *H){
		func(h *H) {}, func(h *H) { h.Schema = 2 }, func(h *H) { h.Zero = 3 }, func(h *H) { h.ZeroCount = 4 }, func(h *H) { h.Count = 10 },
		func(h *H) { h.Sum++ }, func(h *H) { h.Sum |= sign }, func(h *H) { h.Pos, h.PosDeltas = list(1, 1), d(1) }, func(h *H) { h.Neg, h.NegDeltas = list(1, 1), d(1) },
	} {
		h := base
		turn(&h)
		wantRight(t, h)
		if hist.Equal(h, base) != (i == 0) || hist.Equal(base, h) != (i == 0) {
			t.Errorf("Equal(%s, %s): %v", show(h), show(base), i != 0)
		}
	}
	// a sum's bits are what is held: a nought with a sign isn't one without
	if hist.Equal(H{Sum: sign}, H{}) || !hist.Equal(H{Sum: sign}, H{Sum: sign}) || !hist.Equal(base, base) {
		t.Errorf("Equal of sums")
	}
}

// P9.4: Walk

func TestWalk(t *testing.T) {
	for _, c := range []struct {
		h    H
		want []B
	}{
		{some(), []B{{1, 6, 3}, {1, 5, 1}, {2, 0, 2}, {0, -1, 3}, {0, 4, 1}}},
		{flipped(some()), []B{{1, 4, 1}, {1, -1, 3}, {2, 0, 2}, {0, 5, 1}, {0, 6, 3}}},
		{H{}, nil},
		{H{ZeroCount: all, Count: all}, []B{{2, 0, all}}},
		{H{ZeroCount: 1, Count: 7, Sum: noNumber}, []B{{2, 0, 1}}},
		{H{Count: 7, Sum: noNumber}, nil},
		{H{Pos: list(3, 2), PosDeltas: d(0, 0), Neg: list(3, 1), NegDeltas: d(0)}, nil},
		{H{Pos: list(3, 2), PosDeltas: d(0, 0), Neg: list(3, 1), NegDeltas: d(0), ZeroCount: 5, Count: 5}, []B{{2, 0, 5}}},
		{H{Pos: list(-far, 1, 2*far-1, 1), PosDeltas: d(1, 0), Neg: list(-far, 1, 2*far-1, 1), NegDeltas: d(2, 0), Count: 6}, []B{{1, far, 2}, {1, -far, 2}, {0, -far, 1}, {0, far, 1}}},
		{H{Pos: list(0, 1), PosDeltas: d(top), Neg: list(0, 1), NegDeltas: d(top), ZeroCount: 1, Count: all}, []B{{1, 0, top}, {2, 0, 1}, {0, 0, top}}},
		{H{Neg: list(1, 4), NegDeltas: d(0, 2, -2, 1), Count: 3}, []B{{1, 4, 1}, {1, 2, 2}}},
		{H{Pos: list(1, 4), PosDeltas: d(0, 2, -2, 1), Count: 3}, []B{{0, 2, 2}, {0, 4, 1}}},
	} {
		if got := walked(c.h); !slices.Equal(got, c.want) {
			t.Errorf("Walk(%s): %v; want %v", show(c.h), got, c.want)
		}
		wantRight(t, c.h)
	}
}

func TestWalkGivenUp(t *testing.T) {
	for _, h := range []H{some(), flipped(some()), {ZeroCount: 4, Count: 4}, turned(func(h *H) { h.ZeroCount, h.Count = 0, 8 })} {
		all := walked(h)
		for n := range len(all) + 1 {
			var got []B
			for b := range hist.Walk(h) {
				got = append(got, b)
				if len(got) >= n {
					break
				}
			}
			if want := all[:max(n, 1)]; !slices.Equal(got, want) {
				t.Errorf("Walk(%s) up to %d: %v", show(h), n, got)
			}
			// asked no more after it was given up
			calls := 0
			hist.Walk(h)(func(B) bool { calls++; return calls < n })
			if calls != max(n, 1) {
				t.Errorf("Walk(%s): asked %d times, not %d", show(h), calls, n)
			}
		}
	}
}

func TestWalkTwice(t *testing.T) {
	walk := hist.Walk(some())
	for range walk {
		break
	}
	for range 2 {
		if got := slices.Collect(walk); !slices.Equal(got, modelWalk(some())) {
			t.Errorf("Walk: %v", got)
		}
	}
	// one within another
	n := 0
	for range walk {
		for range walk {
			n++
		}
	}
	if n != 25 {
		t.Errorf("Walk: %d", n)
	}
}

func TestWalkAsItIsWhenTheLoopRuns(t *testing.T) {
	h := some()
	walk := hist.Walk(h)
	h.PosDeltas[0], h.PosDeltas[1], h.Pos[1].Offset, h.NegDeltas[0], h.NegDeltas[1] = 2, -2, 9, 2, 0
	h.PosDeltas[2] = 2
	want := []B{{1, 6, 2}, {1, 5, 2}, {2, 0, 2}, {0, -1, 2}, {0, 10, 2}}
	if got := slices.Collect(walk); !slices.Equal(got, want) {
		t.Errorf("Walk: %v", got)
	}
	h.NegDeltas[0] = -1
	if got := slices.Collect(walk); len(got) != 0 {
		t.Errorf("Walk: %v", got)
	}
}

// Against the model

// anyCount: mostly small.
func anyCount(random *rand.Rand) int64 {
	if random.Intn(30) == 0 {
		return []int64{top, top - 1, 1 << 62, bottom, -1, int64(random.Uint64())}[random.Intn(6)]
	}
	return int64(random.Intn(4))
}

// anySide: spans, few of which are wrong, and as many differences, mostly.
func anySide(random *rand.Rand) ([]S, []int64) {
	var l []S
	for range random.Intn(4) {
		l = append(l, sp(random.Intn(3), random.Intn(4)))
	}
	if len(l) > 0 && random.Intn(40) == 0 {
		l[random.Intn(len(l))] = sp(random.Intn(5)-2, random.Intn(5)-2)
	}
	var counts []int64
	for range span.Count(l) {
		counts = append(counts, anyCount(random))
	}
	deltas, e := pairs.Deltas(counts)
	if e != api.OK || random.Intn(20) == 0 { // these needn't come to counts
		deltas = counts
	}
	if len(deltas) > 1 && random.Intn(40) == 0 {
		deltas[random.Intn(len(deltas))] = []int64{top, bottom}[random.Intn(2)]
	}
	if random.Intn(40) == 0 {
		deltas = append(deltas, 1)
	}
	return l, deltas
}

// anyHist: mostly right.
func anyHist(random *rand.Rand) H {
	h := H{Schema: random.Intn(2), Zero: uint64(random.Intn(2)), ZeroCount: uint64(random.Intn(2))}
	h.Pos, h.PosDeltas = anySide(random)
	h.Neg, h.NegDeltas = anySide(random)
	h.Count = h.ZeroCount
	for _, n := range slices.Concat(sums(h.PosDeltas), sums(h.NegDeltas)) {
		h.Count += n.Uint64()
	}
	switch random.Intn(20) {
	case 0:
		h.Count += uint64(random.Intn(3)) - 1
	case 1:
		h.Sum = noNumber
		h.Count += uint64(random.Intn(3)) - 1
	case 2:
		h.Schema = random.Intn(20) - 7
	case 3:
		h.Zero = infinite + uint64(random.Intn(3)) - 1
	case 4:
		h.ZeroCount = uint64(anyCount(random))
	}
	return h
}

func TestAgainstTheModel(t *testing.T) {
	random := rand.New(rand.NewSource(9))
	seen := map[api.Errno]int{}
	for range 30000 {
		h := anyHist(random)
		_, _, e := model(h)
		seen[e]++
		if e != api.OK {
			wantWrong(t, h, e)
		} else {
			wantRight(t, h)
		}
		pos, _ := anySide(random)
		neg, _ := anySide(random)
		want, e := modelOver(h, pos, neg)
		if got, f := hist.Over(h, pos, neg); f != e || !one(got, want) {
			t.Fatalf("Over(%s, %v, %v): %s, %d; want %s, %d", show(h), pos, neg, show(got), f, show(want), e)
		}
		seen[100+e]++
	}
	for _, e := range []api.Errno{api.OK, api.ErrSchema, api.ErrRange, api.ErrSpan, api.ErrLayout, api.ErrOverflow, api.ErrCount, 100, 100 + api.ErrLayout} {
		if seen[e] < 50 {
			t.Errorf("too few of a kind: %v", seen)
		}
	}
}

func TestEqualAgainstTheModel(t *testing.T) {
	random := rand.New(rand.NewSource(10))
	seen := [2]int{}
	var l []H
	for range 700 {
		h := anyHist(random)
		l = append(l, h)
		if c, e := hist.Canon(h); e == api.OK {
			l = append(l, c)
		}
	}
	for _, a := range l {
		for _, b := range l[:200] {
			want := modelEqual(a, b)
			if got := hist.Equal(a, b); got != want {
				t.Fatalf("Equal(%s, %s): %v", show(a), show(b), got)
			}
			if want {
				seen[1]++
			} else {
				seen[0]++
			}
		}
	}
	if seen[0] < 1000 || seen[1] < 300 {
		t.Errorf("too few of a kind: %v", seen)
	}
}

func TestMakeAgainstTheModel(t *testing.T) {
	random := rand.New(rand.NewSource(11))
	seen := map[api.Errno]int{}
	for range 20000 {
		h := anyHist(random)
		pos, neg, e := model(h)
		if e != api.OK {
			continue
		}
		if random.Intn(3) == 0 { // one thing is moved to another bucket, or to none
			for _, l := range [][]P{pos, neg} {
				if len(l) > 0 {
					l[random.Intn(len(l))].V += int64(random.Intn(3) - 1)
					l[random.Intn(len(l))].Place += random.Intn(3) - 1
				}
			}
		}
		got, e := hist.Make(H{Schema: h.Schema, Zero: h.Zero, ZeroCount: h.ZeroCount, Count: h.Count, Sum: h.Sum}, pos, neg)
		seen[e]++
		if e != api.OK {
			if !one(got, H{}) {
				t.Errorf("Make: %s, %d", show(got), e)
			}
			continue
		}
		x, y, e := model(got)
		if e != api.OK || numbersOf(got) != numbersOf(h) || !slices.Equal(x, pos) || !slices.Equal(y, neg) || !span.Canonical(got.Pos) || !span.Canonical(got.Neg) {
			t.Errorf("Make(%s, %v, %v): %s", show(h), pos, neg, show(got))
		}
	}
	if seen[api.OK] < 5000 || seen[api.ErrCount] < 500 || seen[api.ErrRange] < 500 {
		t.Errorf("too few of a kind: %v", seen)
	}
}

// The rules on memory

// roomy: a list whose spare room is filled, so that an answer that lies in it would be seen.
func roomy[T any](spare T, l []T) []T {
	whole := append(slices.Clone(l), spare, spare, spare, spare, spare, spare)
	return whole[:len(l)]
}

// wide: a histogram with room behind all of its lists.
func wide(h H) H {
	h.Pos, h.Neg, h.PosDeltas, h.NegDeltas = roomy(sp(7, 7), h.Pos), roomy(sp(8, 8), h.Neg), roomy(66, h.PosDeltas), roomy(77, h.NegDeltas)
	return h
}

// whole: all that its lists have room for.
func whole(h H) H {
	h.Pos, h.Neg = slices.Clone(h.Pos[:cap(h.Pos)]), slices.Clone(h.Neg[:cap(h.Neg)])
	h.PosDeltas, h.NegDeltas = slices.Clone(h.PosDeltas[:cap(h.PosDeltas)]), slices.Clone(h.NegDeltas[:cap(h.NegDeltas)])
	return h
}

// spoil: all that a list has room for is other than it was.
func spoil[T any](l []T, v T) {
	l = l[:cap(l)]
	for i := range l {
		l[i] = v
	}
}

func spoilHist(h H) {
	spoil(h.Pos, sp(-5, -5))
	spoil(h.Neg, sp(-6, -6))
	spoil(h.PosDeltas, -55)
	spoil(h.NegDeltas, -66)
}

func TestNothingHandedInIsChanged(t *testing.T) {
	a, b := wide(some()), wide(turned(func(h *H) { h.Pos, h.PosDeltas = list(-1, 1, 0, 0, 4, 1), d(3, -2) }))
	l, m := roomy(sp(7, 7), list(-2, 9)), roomy(sp(8, 8), list(4, 1, 0, 0, 0, 4))
	p, q := roomy(P{Place: 9, V: 9}, at(-1, 3, 0, 0, 4, 1)), roomy(P{Place: 9, V: 9}, at(5, 1, 6, 3))
	wasA, wasB := whole(a), whole(b)
	wasL, wasM := slices.Clone(l[:cap(l)]), slices.Clone(m[:cap(m)])
	wasP, wasQ := slices.Clone(p[:cap(p)]), slices.Clone(q[:cap(q)])
	for _, h := range []H{a, b, turned(func(h *H) { *h = a; h.Count++ }), turned(func(h *H) { *h = a; h.PosDeltas = h.PosDeltas[:2] })} {
		hist.Check(h)
		hist.Pairs(h, hist.Positive)
		hist.Pairs(h, hist.Negative)
		hist.Pairs(h, hist.Nought)
		hist.Make(h, p, q)
		hist.Make(h, q, p)
		hist.Make(h, p[:1], nil)
		hist.Make(h, nil, q[:0])
		hist.Canon(h)
		hist.Over(h, l, m)
		hist.Over(h, m, l)
		hist.Over(h, l[:0], m[:1])
		hist.Equal(h, b)
		hist.Equal(b, h)
		for range hist.Walk(h) {
		}
	}
	if !one(whole(a), wasA) || !one(whole(b), wasB) {
		t.Errorf("%s, %s", show(whole(a)), show(whole(b)))
	}
	if !slices.Equal(l[:cap(l)], wasL) || !slices.Equal(m[:cap(m)], wasM) || !slices.Equal(p[:cap(p)], wasP) || !slices.Equal(q[:cap(q)], wasQ) {
		t.Errorf("%v, %v, %v, %v", l[:cap(l)], m[:cap(m)], p[:cap(p)], q[:cap(q)])
	}
}

// wantOwnLists: a histogram's lists share no room: each is spoilt by itself, and all others are then as they were.
func wantOwnLists(t *testing.T, name string, h H) {
	t.Helper()
	was := whole(h)
	spoil(h.Pos, sp(-5, -5))
	spoil(h.PosDeltas, -55)
	now := whole(h)
	if !slices.Equal(now.Neg, was.Neg) || !slices.Equal(now.NegDeltas, was.NegDeltas) {
		t.Errorf("%s: the sides share memory", name)
	}
	spoil(h.Neg, sp(-6, -6))
	spoil(h.NegDeltas, -66)
	now = whole(h)
	if !slices.Equal(now.Pos, slices.Repeat(list(-5, -5), cap(h.Pos))) || !slices.Equal(now.PosDeltas, slices.Repeat(d(-55), cap(h.PosDeltas))) {
		t.Errorf("%s: the sides share memory", name)
	}
}

func TestWhatIsMadeIsNewMemory(t *testing.T) {
	canonical := turned(func(h *H) { h.Pos, h.PosDeltas = list(-1, 1, 4, 1), d(3, -2) })
	same := roomy(sp(7, 7), list(-2, 9))
	twice := roomy(P{Place: 9, V: 9}, at(3, 5))
	calls := map[string]func(h H) H{
		"Canon": func(h H) H { c, _ := hist.Canon(h); return c },
		"Make": func(h H) H {
			p, _ := hist.Pairs(h, hist.Positive)
			n, _ := hist.Pairs(h, hist.Negative)
			m, _ := hist.Make(h, p, n)
			spoil(p, P{Place: -5, V: -5})
			spoil(n, P{Place: -5, V: -5})
			return m
		},
		"Make of one list twice": func(h H) H { h.Count = h.ZeroCount + 10; m, _ := hist.Make(h, twice, twice); return m },
		"Make of none":           func(h H) H { h.Count = h.ZeroCount; m, _ := hist.Make(h, twice[:0], twice[:0]); return m },
		"Over its own":           func(h H) H { o, _ := hist.Over(h, h.Pos, h.Neg); return o },
		"Over one list twice":    func(h H) H { o, _ := hist.Over(h, same, same); return o },
		"Over none": func(h H) H {
			o, _ := hist.Over(H{Count: 1, ZeroCount: 1}, same[:0], h.Pos[:0])
			return o
		},
	}
	for name, call := range calls {
		for _, h := range []H{some(), canonical, flipped(some()), {ZeroCount: 4, Count: 4}} {
			in := wide(h)
			was := whole(in)
			wasSame, wasTwice := slices.Clone(same[:cap(same)]), slices.Clone(twice[:cap(twice)])
			first, second := call(in), call(in)
			want := whole(second)
			if first.Count == 0 || !one(first, second) {
				t.Errorf("%s: %s, %s", name, show(first), show(second))
			}
			wantOwnLists(t, name, first)
			if !one(whole(second), want) || !one(whole(in), was) || !slices.Equal(same[:cap(same)], wasSame) || !slices.Equal(twice[:cap(twice)], wasTwice) {
				t.Errorf("%s: the answer of %s shares memory", name, show(h))
			}
			spoilHist(in)
			if !one(whole(second), want) {
				t.Errorf("%s: the answer is in what was handed in", name)
			}
		}
	}
}

func TestPairsAreNewMemory(t *testing.T) {
	h := wide(some())
	was := whole(h)
	for _, side := range []int{hist.Positive, hist.Negative} {
		first, _ := hist.Pairs(h, side)
		second, _ := hist.Pairs(h, side)
		want := slices.Clone(second)
		spoil(first, P{Place: -5, V: -5})
		if !slices.Equal(second, want) || !one(whole(h), was) {
			t.Errorf("Pairs: %v, %s", second, show(h))
		}
		in := wide(some())
		third, _ := hist.Pairs(in, side)
		spoilHist(in)
		if !slices.Equal(third, want) {
			t.Errorf("Pairs: %v", third)
		}
	}
}
