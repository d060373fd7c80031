package fhist_test

import (
	"fmt"
	"maps"
	"math"
	"math/big"
	"math/rand"
	"slices"
	"testing"

	"tidepole/api"
	"tidepole/fhist"
	"tidepole/hist"
	"tidepole/pairs"
	"tidepole/span"
)

const (
	far      = api.MaxOffset
	most     = api.MaxBuckets
	infinite = 0x7ff0000000000000
	sign     = 1 << 63
	noNumber = 0x7ff8000000000001
	all      = math.MaxUint64
	top      = math.MaxInt64
	two53    = 1 << 53
	greatest = 1<<64 - 2048 // of the floats below 2^64
)

// F: a histogram of floats, H: one of whole counts, S: a span, and P: a pair, as short as the tables below want them.
type (
	F = fhist.Hist
	H = hist.Hist
	S = span.Span
	P = pairs.Pair[uint64]
)

// bits: a float's, and f: those of some.
func bits(v float64) uint64 { return math.Float64bits(v) }

func f(l ...float64) []uint64 {
	var out []uint64
	for _, v := range l {
		out = append(out, bits(v))
	}
	return out
}

// notRight: bits that are no count.
func notRight() []uint64 {
	return []uint64{infinite, infinite + 1, noNumber, sign - 1, sign, sign | 1, bits(-1), sign | infinite - 1, sign | infinite, sign | noNumber, all}
}

// sp: a span, and list: some of them, each by its Offset and its Len.
func sp(offset, n int) S { return S{Offset: offset, Len: n} }

func list(numbers ...int) []S {
	var l []S
	for s := range slices.Chunk(numbers, 2) {
		l = append(l, sp(s[0], s[1]))
	}
	return l
}

// spans: n spans, all alike.
func spans(n int, s S) []S { return slices.Repeat([]S{s}, n) }

// at: pairs, each by its place and its count.
func at(numbers ...float64) []P {
	var l []P
	for s := range slices.Chunk(numbers, 2) {
		l = append(l, P{Place: int(s[0]), V: bits(s[1])})
	}
	return l
}

// row: n pairs of one count, each so far behind the one ahead.
func row(first, n, step int, v float64) []P {
	var l []P
	for i := range n {
		l = append(l, P{Place: first + i*step, V: bits(v)})
	}
	return l
}

// d: differences.
func d(numbers ...int64) []int64 { return numbers }

// some: an ordinary histogram: -1, 0 and 4 with 3.5, 0 and 1; 5 and 6 with 1 and 2.25; 0.5 in the zero bucket; a Count that isn't the sum.
func some() F {
	return F{Schema: 3, Zero: 1, ZeroCount: bits(0.5), Count: bits(9), Sum: sign | 1, Pos: list(-1, 2, 3, 1), PosCounts: f(3.5, 0, 1), Neg: list(5, 2), NegCounts: f(1, 2.25)}
}

// even: one whose counts are whole, and come to Count.
func even() F {
	return F{Schema: -2, Zero: 7, ZeroCount: bits(2), Count: bits(10), Sum: bits(-3.5), Pos: list(-1, 2, 3, 1), PosCounts: f(3, 0, 1), Neg: list(5, 2), NegCounts: f(1, 3)}
}

// turned: the ordinary one, but for something, and turnedEven: the whole one so.
func turned(turns ...func(h *F)) F { return afterTurns(some(), turns) }

func turnedEven(turns ...func(h *F)) F { return afterTurns(even(), turns) }

func afterTurns(h F, turns []func(h *F)) F {
	for _, turn := range turns {
		turn(&h)
	}
	return h
}

// flipped: one side in the place of the other.
func flipped(h F) F {
	h.Pos, h.Neg, h.PosCounts, h.NegCounts = h.Neg, h.Pos, h.NegCounts, h.PosCounts
	return h
}

// flippedWhole: a histogram of whole counts so.
func flippedWhole(h H) H {
	h.Pos, h.Neg, h.PosDeltas, h.NegDeltas = h.Neg, h.Pos, h.NegDeltas, h.PosDeltas
	return h
}

// bothWays: a turn on the positive side, and the same one on the negative.
func bothWays(turn func(h *F)) [2]F {
	return [2]F{turned(turn), flipped(turned(turn))}
}

// one: are two histograms so, list by list? And oneWhole: those of whole counts.
func one(a, b F) bool {
	return a.Schema == b.Schema && a.Zero == b.Zero && a.ZeroCount == b.ZeroCount && a.Count == b.Count && a.Sum == b.Sum &&
		slices.Equal(a.Pos, b.Pos) && slices.Equal(a.Neg, b.Neg) && slices.Equal(a.PosCounts, b.PosCounts) && slices.Equal(a.NegCounts, b.NegCounts)
}

func oneWhole(a, b H) bool {
	return a.Schema == b.Schema && a.Zero == b.Zero && a.ZeroCount == b.ZeroCount && a.Count == b.Count && a.Sum == b.Sum &&
		slices.Equal(a.Pos, b.Pos) && slices.Equal(a.Neg, b.Neg) && slices.Equal(a.PosDeltas, b.PosDeltas) && slices.Equal(a.NegDeltas, b.NegDeltas)
}

// text: a list, cut short for the eye, and show and showWhole: a histogram so.
func text[T any](l []T) string {
	if len(l) <= 12 {
		return fmt.Sprintf("%x", any(l))
	}
	return fmt.Sprintf("%x.. (%d)", any(l[:4]), len(l))
}

func show(h F) string {
	return fmt.Sprintf("{%d %x %x %x %x %s %s %s %s}", h.Schema, h.Zero, h.ZeroCount, h.Count, h.Sum, text(h.Pos), text(h.PosCounts), text(h.Neg), text(h.NegCounts))
}

func showWhole(h H) string {
	return fmt.Sprintf("{%d %x %d %d %x %s %s %s %s}", h.Schema, h.Zero, h.ZeroCount, h.Count, h.Sum, text(h.Pos), text(h.PosDeltas), text(h.Neg), text(h.NegDeltas))
}

// The models: the chapter's words, by other means.

// modelRight: by what the float is.
func modelRight(v uint64) bool {
	x := math.Float64frombits(v)
	return !math.Signbit(x) && !math.IsNaN(x) && !math.IsInf(x, 0)
}

// modelFloat: the nearest of all numbers of 53 bits.
func modelFloat(n uint64) uint64 {
	x, _ := new(big.Float).SetPrec(53).SetMode(big.ToNearestEven).SetInt(new(big.Int).SetUint64(n)).Float64()
	return bits(x)
}

// modelWhole: in numbers of any size.
func modelWhole(v uint64) (uint64, bool) {
	if !modelRight(v) {
		return 0, false
	}
	n, exact := new(big.Float).SetFloat64(math.Float64frombits(v)).Int(nil)
	if exact != big.Exact || !n.IsUint64() {
		return 0, false
	}
	return n.Uint64(), true
}

// modelSide: a side's places with their counts, or its error.
func modelSide(l []S, counts []uint64) ([]P, api.Errno) {
	places, e := span.Places(l)
	if e != api.OK {
		return nil, e
	}
	if len(places) != len(counts) {
		return nil, api.ErrLayout
	}
	var side []P
	for i, v := range counts {
		if !modelRight(v) {
			return nil, api.ErrCount
		}
		side = append(side, P{Place: places[i], V: v})
	}
	return side, api.OK
}

// model: both sides, or Check's error.
func model(h F) (pos, neg []P, e api.Errno) {
	switch {
	case h.Schema < -4 || h.Schema > 8:
		return nil, nil, api.ErrSchema
	case !modelRight(h.Zero):
		return nil, nil, api.ErrRange
	case !modelRight(h.ZeroCount) || !modelRight(h.Count):
		return nil, nil, api.ErrCount
	}
	if pos, e = modelSide(h.Pos, h.PosCounts); e != api.OK {
		return nil, nil, e
	}
	if neg, e = modelSide(h.Neg, h.NegCounts); e != api.OK {
		return nil, nil, e
	}
	return pos, neg, api.OK
}

// byPlace: what each place has, but for those that have nothing.
func byPlace(l []P) map[int]uint64 {
	m := map[int]uint64{}
	for _, p := range l {
		if p.V != 0 {
			m[p.Place] = p.V
		}
	}
	return m
}

// modelEqual: place by place.
func modelEqual(a, b F) bool {
	aPos, aNeg, x := model(a)
	bPos, bNeg, y := model(b)
	return x == api.OK && y == api.OK && a.Schema == b.Schema && a.Zero == b.Zero && a.ZeroCount == b.ZeroCount && a.Count == b.Count && a.Sum == b.Sum &&
		maps.Equal(byPlace(aPos), byPlace(bPos)) && maps.Equal(byPlace(aNeg), byPlace(bNeg))
}

// modelOver: counts by places, looked up.
func modelOver(h F, pos, neg []S) (F, api.Errno) {
	ownPos, ownNeg, e := model(h)
	if e != api.OK {
		return F{}, e
	}
	if e := span.Check(pos); e != api.OK {
		return F{}, e
	}
	if e := span.Check(neg); e != api.OK {
		return F{}, e
	}
	for i, own := range [][]P{ownPos, ownNeg} {
		for _, p := range own {
			if !span.Has([][]S{pos, neg}[i], p.Place) {
				return F{}, api.ErrLayout
			}
		}
	}
	h.Pos, h.Neg = pos, neg
	h.PosCounts, h.NegCounts = lookedUp(ownPos, pos), lookedUp(ownNeg, neg)
	return h, api.OK
}

// lookedUp: the counts of spans' places.
func lookedUp(own []P, l []S) []uint64 {
	var counts []uint64
	m := byPlace(own)
	for _, place := range span.All(l) {
		counts = append(counts, m[place])
	}
	return counts
}

// modelFrom: count by count, as hist tells them.
func modelFrom(h H) (F, api.Errno) {
	pos, e := hist.Pairs(h, hist.Positive)
	if e != api.OK {
		return F{}, e
	}
	neg, _ := hist.Pairs(h, hist.Negative)
	x := F{Schema: h.Schema, Zero: h.Zero, ZeroCount: modelFloat(h.ZeroCount), Count: modelFloat(h.Count), Sum: h.Sum, Pos: h.Pos, Neg: h.Neg}
	for _, p := range pos {
		x.PosCounts = append(x.PosCounts, modelFloat(uint64(p.V)))
	}
	for _, p := range neg {
		x.NegCounts = append(x.NegCounts, modelFloat(uint64(p.V)))
	}
	return x, api.OK
}

// modelBack: in numbers of any size.
func modelBack(h F) (H, api.Errno) {
	if _, _, e := model(h); e != api.OK {
		return H{}, e
	}
	for _, v := range slices.Concat([]uint64{h.ZeroCount, h.Count}, h.PosCounts, h.NegCounts) {
		if _, ok := modelWhole(v); !ok {
			return H{}, api.ErrForm
		}
	}
	zeroCount, _ := modelWhole(h.ZeroCount)
	count, _ := modelWhole(h.Count)
	x := H{Schema: h.Schema, Zero: h.Zero, ZeroCount: zeroCount, Count: count, Sum: h.Sum, Pos: h.Pos, Neg: h.Neg}
	total := new(big.Int).SetUint64(zeroCount)
	for i, counts := range [][]uint64{h.PosCounts, h.NegCounts} {
		ahead := int64(0)
		for _, v := range counts {
			n, _ := modelWhole(v)
			if n > top {
				return H{}, api.ErrOverflow
			}
			total.Add(total, new(big.Int).SetUint64(n))
			deltas := []*[]int64{&x.PosDeltas, &x.NegDeltas}[i]
			*deltas = append(*deltas, int64(n)-ahead)
			ahead = int64(n)
		}
	}
	order := total.Cmp(new(big.Int).SetUint64(count))
	if order > 0 || order < 0 && !math.IsNaN(math.Float64frombits(h.Sum)) {
		return H{}, api.ErrCount
	}
	return x, api.OK
}

// wantRight: a histogram that is right, so all calls tell that ask.
func wantRight(t *testing.T, h F) {
	t.Helper()
	pos, neg, e := model(h)
	if e != api.OK {
		t.Fatalf("the model refuses %s: %d", show(h), e)
	}
	if e := fhist.Check(h); e != api.OK {
		t.Errorf("Check(%s): %d", show(h), e)
	}
	wantPairs(t, h, hist.Positive, pos)
	wantPairs(t, h, hist.Negative, neg)
	if !fhist.Equal(h, h) {
		t.Errorf("Equal(%s) of itself", show(h))
	}
	wantOver(t, h, h.Pos, h.Neg, h)
	if c, e := fhist.Canon(h); e == api.OK {
		wantCanonOf(t, h, c)
	} else if e != api.ErrMany || !one(c, F{}) {
		t.Errorf("Canon(%s): %s, %d", show(h), show(c), e)
	}
	wantBack(t, h)
}

// wantPairs: a side's places and counts.
func wantPairs(t *testing.T, h F, side int, want []P) {
	t.Helper()
	if got, e := fhist.Pairs(h, side); e != api.OK || !slices.Equal(got, want) {
		t.Errorf("Pairs(%s, %d): %s, %d; want %s", show(h), side, text(got), e, text(want))
	}
}

// wantCanonOf: the same counts, on spans that are canonical, and no bucket that is empty.
func wantCanonOf(t *testing.T, h, c F) {
	t.Helper()
	pos, neg, e := model(c)
	if e != api.OK || !span.Canonical(c.Pos) || !span.Canonical(c.Neg) || !modelEqual(c, h) || len(byPlace(pos)) != len(pos) || len(byPlace(neg)) != len(neg) {
		t.Errorf("Canon(%s): %s", show(h), show(c))
	}
}

// wantBack: what the model tells, whichever it is.
func wantBack(t *testing.T, h F) {
	t.Helper()
	want, wantE := modelBack(h)
	got, e := fhist.Back(h)
	if e != wantE || !oneWhole(got, want) {
		t.Errorf("Back(%s): %s, %d; want %s, %d", show(h), showWhole(got), e, showWhole(want), wantE)
	}
	if e == api.OK && hist.Check(got) != api.OK {
		t.Errorf("Back(%s): %s isn't right", show(h), showWhole(got))
	}
}

// wantWrong: an error, and nothing else, so all calls tell that ask.
func wantWrong(t *testing.T, h F, want api.Errno) {
	t.Helper()
	if e := fhist.Check(h); e != want {
		t.Errorf("Check(%s): %d; want %d", show(h), e, want)
	}
	for _, side := range []int{hist.Positive, hist.Negative} {
		if got, e := fhist.Pairs(h, side); e != want || len(got) != 0 {
			t.Errorf("Pairs(%s, %d): %s, %d; want %d", show(h), side, text(got), e, want)
		}
	}
	if got, e := fhist.Canon(h); e != want || !one(got, F{}) {
		t.Errorf("Canon(%s): %s, %d; want %d", show(h), show(got), e, want)
	}
	for _, l := range [][]S{nil, list(-9, 99), h.Pos, h.Neg, list(0, -1), spans(api.MaxSpans+1, S{})} {
		wantOverRefused(t, h, l, l, want)
	}
	for _, other := range []F{h, some(), {}} {
		if fhist.Equal(h, other) || fhist.Equal(other, h) {
			t.Errorf("Equal(%s, %s)", show(h), show(other))
		}
	}
	wantBackRefused(t, h, want)
	if _, _, e := model(h); e != want {
		t.Errorf("the model tells %d of %s", e, show(h))
	}
}

// wantMade: what comes of places and counts.
func wantMade(t *testing.T, h F, pos, neg []P, want F) {
	t.Helper()
	got, e := fhist.Make(h, pos, neg)
	if e != api.OK || !one(got, want) {
		t.Errorf("Make(%s, %s, %s): %s, %d; want %s", show(h), text(pos), text(neg), show(got), e, show(want))
	}
	wantPairs(t, got, hist.Positive, pos)
	wantPairs(t, got, hist.Negative, neg)
}

// wantMadeRefused: an error, and nothing else.
func wantMadeRefused(t *testing.T, h F, pos, neg []P, want api.Errno) {
	t.Helper()
	if got, e := fhist.Make(h, pos, neg); e != want || !one(got, F{}) {
		t.Errorf("Make(%s, %s, %s): %s, %d; want %d", show(h), text(pos), text(neg), show(got), e, want)
	}
}

// wantCanon: just that one, which is its own Canon.
func wantCanon(t *testing.T, h, want F) {
	t.Helper()
	for _, x := range []F{h, want} {
		if got, e := fhist.Canon(x); e != api.OK || !one(got, want) {
			t.Errorf("Canon(%s): %s, %d; want %s", show(x), show(got), e, show(want))
		}
	}
	wantCanonOf(t, h, want)
	if !fhist.Equal(h, want) || !fhist.Equal(want, h) {
		t.Errorf("Equal(%s, %s)", show(h), show(want))
	}
}

// wantOver: just that one.
func wantOver(t *testing.T, h F, pos, neg []S, want F) {
	t.Helper()
	got, e := fhist.Over(h, pos, neg)
	if e != api.OK || !one(got, want) {
		t.Errorf("Over(%s, %s, %s): %s, %d; want %s", show(h), text(pos), text(neg), show(got), e, show(want))
	}
	if !fhist.Equal(h, got) {
		t.Errorf("Over(%s, %s, %s): %s counts otherwise", show(h), text(pos), text(neg), show(got))
	}
}

// wantOverRefused: an error, and nothing else.
func wantOverRefused(t *testing.T, h F, pos, neg []S, want api.Errno) {
	t.Helper()
	if got, e := fhist.Over(h, pos, neg); e != want || !one(got, F{}) {
		t.Errorf("Over(%s, %s, %s): %s, %d; want %d", show(h), text(pos), text(neg), show(got), e, want)
	}
}

// wantBackRefused: an error, and nothing else.
func wantBackRefused(t *testing.T, h F, want api.Errno) {
	t.Helper()
	if got, e := fhist.Back(h); e != want || !oneWhole(got, H{}) {
		t.Errorf("Back(%s): %s, %d; want %d", show(h), showWhole(got), e, want)
	}
}

// wantFrom: just that one.
func wantFrom(t *testing.T, h H, want F) {
	t.Helper()
	if got, e := fhist.From(h); e != api.OK || !one(got, want) {
		t.Errorf("From(%s): %s, %d; want %s", showWhole(h), show(got), e, show(want))
	}
	wantRight(t, want)
}

// P10.1: Right

func TestRight(t *testing.T) {
	for _, v := range []uint64{0, 1, 2, bits(math.SmallestNonzeroFloat64), 0x000fffffffffffff, 0x0010000000000000, bits(0.5), bits(1), bits(1e300), infinite - 1, bits(math.MaxFloat64)} {
		if !fhist.Right(v) {
			t.Errorf("Right(%x): false", v)
		}
	}
	for _, v := range append(notRight(), bits(math.Copysign(0, -1)), bits(-math.SmallestNonzeroFloat64), bits(-0.5), bits(math.Inf(1)), bits(math.Inf(-1)), bits(math.NaN())) {
		if fhist.Right(v) {
			t.Errorf("Right(%x): true", v)
		}
	}
}

func TestRightIsThatOfFloats(t *testing.T) {
	random := rand.New(rand.NewSource(1))
	for range 100000 {
		v := random.Uint64()
		if random.Intn(2) == 0 {
			v = v&sign | infinite + uint64(random.Intn(5)) - 2
		}
		if fhist.Right(v) != modelRight(v) {
			t.Errorf("Right(%x): %v", v, fhist.Right(v))
		}
	}
}

// P10.1: Check

func TestRightHistograms(t *testing.T) {
	for _, h := range []F{
		{}, some(), flipped(some()), even(), flipped(even()),
		{ZeroCount: bits(7)}, {Count: bits(7)}, {ZeroCount: 1}, {Count: 1}, {ZeroCount: infinite - 1, Count: infinite - 1}, {Schema: -4}, {Schema: 8}, {Zero: infinite - 1},
		{Sum: noNumber}, {Sum: all}, {Sum: infinite}, {Sum: sign | infinite}, {Sum: sign},
		{Pos: []S{}, Neg: []S{}, PosCounts: []uint64{}, NegCounts: []uint64{}},
	} {
		wantRight(t, h)
	}
}

func TestSchemas(t *testing.T) {
	for schema := -4; schema <= 8; schema++ {
		wantRight(t, turned(func(h *F) { h.Schema = schema }))
	}
	for _, schema := range []int{-5, 9, -100, 100, math.MinInt, math.MaxInt, 1 << 32, -1 << 32, 1<<32 + 3} {
		wantWrong(t, turned(func(h *F) { h.Schema = schema }), api.ErrSchema)
	}
}

func TestThresholds(t *testing.T) {
	for _, zero := range []uint64{0, 1, bits(1), infinite - 1} {
		wantRight(t, turned(func(h *F) { h.Zero = zero }))
	}
	for _, zero := range notRight() {
		wantWrong(t, turned(func(h *F) { h.Zero = zero }), api.ErrRange)
	}
}

func TestCounts(t *testing.T) {
	turns := []func(h *F, v uint64){
		func(h *F, v uint64) { h.ZeroCount = v },
		func(h *F, v uint64) { h.Count = v },
		func(h *F, v uint64) { h.ZeroCount, h.Count = v, v },
		func(h *F, v uint64) { h.PosCounts[0] = v },
		func(h *F, v uint64) { h.PosCounts[1] = v },
		func(h *F, v uint64) { h.PosCounts[2] = v },
		func(h *F, v uint64) { h.NegCounts[0] = v },
		func(h *F, v uint64) { h.NegCounts[1] = v },
	}
	for _, turn := range turns {
		for _, v := range []uint64{0, 1, bits(0.1), bits(4), infinite - 1} {
			wantRight(t, turned(func(h *F) { turn(h, v) }))
		}
		for _, v := range notRight() {
			wantWrong(t, turned(func(h *F) { turn(h, v) }), api.ErrCount)
		}
	}
}

func TestCountThatIsNotTheSum(t *testing.T) {
	for _, count := range []uint64{0, 1, bits(0.5), bits(7), bits(8.25), bits(8.5), bits(1e300), infinite - 1} {
		for _, sum := range []uint64{0, noNumber} {
			wantRight(t, turned(func(h *F) { h.Count, h.Sum = count, sum }))
			wantRight(t, F{Count: count, ZeroCount: bits(4), Sum: sum})
			wantRight(t, F{Count: count, Pos: list(0, 2), PosCounts: []uint64{infinite - 1, infinite - 1}, Sum: sum})
		}
	}
}

func TestSpansOfASide(t *testing.T) {
	for _, c := range []struct {
		l []S
		e api.Errno
	}{
		// otherwise cut: touching, without places
		{list(-1, 1, 0, 1, 3, 1), api.OK},
		{list(-9, 0, 8, 1, 0, 0, 0, 1, 1, 0, 2, 1, 99, 0), api.OK},
		{append(list(-1, 2, 3, 1), spans(api.MaxSpans-2, S{})...), api.OK},
		{list(far-6, 3), api.OK},
		{list(-far, 1, 2*far-2, 2), api.OK},
		// wrong
		{list(-1, 2, -1, 1), api.ErrSpan},
		{list(-1, 3, 0, -1), api.ErrSpan},
		{list(-1, 2, 3, 1, -1, 0), api.ErrSpan},
		{list(far-1, 3), api.ErrSpan},
		{list(-far-1, 3), api.ErrSpan},
		{list(far+1, 0, 0, 3), api.ErrSpan},
		{list(0, most+1), api.ErrSpan},
		{list(0, most, 0, 1), api.ErrSpan},
		{list(math.MaxInt, math.MaxInt, math.MaxInt, math.MaxInt), api.ErrSpan},
		{list(math.MinInt, math.MinInt), api.ErrSpan},
		// too many
		{append(list(-1, 2, 3, 1), spans(api.MaxSpans-1, S{})...), api.ErrMany},
		{spans(api.MaxSpans+1, S{}), api.ErrMany},
		{spans(api.MaxSpans+1, sp(-1, -1)), api.ErrMany},
	} {
		for _, h := range bothWays(func(h *F) { h.Pos = c.l }) {
			if c.e == api.OK {
				wantRight(t, h)
			} else {
				wantWrong(t, h, c.e)
			}
		}
	}
}

func TestAsManyCountsAsPlaces(t *testing.T) {
	for _, c := range []struct {
		l      []S
		counts []uint64
	}{
		{list(-1, 2, 3, 1), f(3, 0)},
		{list(-1, 2, 3, 1), f(3, 0, 1, 0)},
		{list(-1, 2, 3, 1), nil},
		{list(-1, 2, 3, 1), []uint64{}},
		{nil, f(3)},
		{nil, f(0)},
		{list(5, 0), f(4)},
		{list(5, 1), nil},
		{list(0, most), make([]uint64, most-1)},
		{list(0, most), make([]uint64, most+1)},
		// counts that are wrong themselves are not looked at
		{list(-1, 2, 3, 1), f(-1, 2)},
		{list(-1, 2, 3, 1), f(1, 2, 3, -4)},
		{nil, f(-1)},
	} {
		for _, h := range bothWays(func(h *F) { h.Pos, h.PosCounts = c.l, c.counts }) {
			wantWrong(t, h, api.ErrLayout)
		}
	}
	// none of either, and as many as there may be
	for _, h := range bothWays(func(h *F) { h.Pos, h.PosCounts = nil, nil }) {
		wantRight(t, h)
	}
	for _, h := range bothWays(func(h *F) { h.Pos, h.PosCounts = list(0, most), make([]uint64, most) }) {
		wantRight(t, h)
	}
	// as many of both sides together as there are places, but not on each
	wantWrong(t, turned(func(h *F) { h.PosCounts, h.NegCounts = f(3, 0), f(1, 0, 2) }), api.ErrLayout)
}

// fault: a turn, and what is told of it.
type fault struct {
	name string
	e    api.Errno
	turn func(h *F)
}

// faults: in the order in which they are told.
func faults() []fault {
	side := func(name string, flip func(h *F)) []fault {
		on := func(turn func(h *F)) func(h *F) {
			return func(h *F) { flip(h); turn(h); flip(h) }
		}
		return []fault{
			{name + " spans", api.ErrSpan, on(func(h *F) { h.Pos = list(-1, 3, 0, -1) })},
			{name + " layout", api.ErrLayout, on(func(h *F) { h.PosCounts = append(slices.Clone(h.PosCounts), bits(1)) })},
			{name + " count", api.ErrCount, on(func(h *F) { h.PosCounts = append(f(-1), h.PosCounts[1:]...) })},
		}
	}
	return slices.Concat(
		[]fault{
			{"schema", api.ErrSchema, func(h *F) { h.Schema = 9 }},
			{"threshold", api.ErrRange, func(h *F) { h.Zero = sign }},
			{"ZeroCount", api.ErrCount, func(h *F) { h.ZeroCount = sign }},
			{"Count", api.ErrCount, func(h *F) { h.Count = infinite }},
		},
		side("positive", func(h *F) {}),
		side("negative", func(h *F) { *h = flipped(*h) }),
	)
}

func TestEachErrorAheadOfTheLaterOnes(t *testing.T) {
	l := faults()
	for i, first := range l {
		wantWrong(t, turned(first.turn), first.e)
		for _, later := range l[i+1:] {
			h := turned(later.turn, first.turn)
			if e := fhist.Check(h); e != first.e {
				t.Errorf("%s ahead of %s: %d", first.name, later.name, e)
			}
			wantWrong(t, h, first.e)
		}
		// and ahead of all of them
		var turns []func(h *F)
		for _, later := range slices.Backward(l[i:]) {
			turns = append(turns, later.turn)
		}
		wantWrong(t, turned(turns...), first.e)
	}
	// ErrMany is layer 6's too, and as far ahead
	many := func(h *F) { h.Pos = spans(api.MaxSpans+1, S{}) }
	for i, x := range l {
		want := api.ErrMany
		if i < 4 {
			want = x.e
		}
		wantWrong(t, turned(x.turn, many), want)
	}
	wantWrong(t, turned(func(h *F) { h.Neg = spans(api.MaxSpans+1, S{}); h.Pos = list(-1, 3, 0, -1) }), api.ErrSpan)
	wantWrong(t, turned(func(h *F) { h.Neg = list(5, 3, 0, -1) }, many), api.ErrMany)
}

// P10.2: Pairs

func TestPairs(t *testing.T) {
	for _, c := range []struct {
		h        F
		pos, neg []P
	}{
		{some(), at(-1, 3.5, 0, 0, 4, 1), at(5, 1, 6, 2.25)},
		{flipped(some()), at(5, 1, 6, 2.25), at(-1, 3.5, 0, 0, 4, 1)},
		{F{}, nil, nil},
		{F{ZeroCount: bits(4), Count: bits(5)}, nil, nil},
		{F{Pos: list(3, 0), Neg: list(1, 0, 1, 0)}, nil, nil},
		{F{Pos: list(-far, 1, 2*far-1, 1), PosCounts: f(0, 0)}, at(-far, 0, far, 0), nil},
		{F{Neg: list(7, 1, 0, 0, 0, 2), NegCounts: []uint64{0, infinite - 1, 1}}, nil, at(7, 0, 8, math.MaxFloat64, 9, math.SmallestNonzeroFloat64)},
	} {
		wantPairs(t, c.h, hist.Positive, c.pos)
		wantPairs(t, c.h, hist.Negative, c.neg)
	}
}

func TestPairsOfNoSide(t *testing.T) {
	for _, side := range []int{hist.Nought, 2, 3, -1, math.MinInt, math.MaxInt, 1 << 32} {
		for _, h := range []F{{}, some(), turned(func(h *F) { h.Schema = 99 }), turned(func(h *F) { h.Count = sign }), turned(func(h *F) { h.NegCounts = nil })} {
			if got, e := fhist.Pairs(h, side); e != api.ErrRange || len(got) != 0 {
				t.Errorf("Pairs(%s, %d): %s, %d", show(h), side, text(got), e)
			}
		}
	}
}

// P10.2: Make

func TestMake(t *testing.T) {
	h := some()
	for _, c := range []struct {
		pos, neg []P
		l, m     []S
		x, y     []uint64
	}{
		{nil, nil, nil, nil, nil, nil},
		{[]P{}, []P{}, nil, nil, nil, nil},
		{at(3, 5), nil, list(3, 1), nil, f(5), nil},
		{nil, at(-3, 5), nil, list(-3, 1), nil, f(5)},
		{at(-1, 3.5, 0, 0, 4, 1), at(5, 1, 6, 2.25), list(-1, 2, 3, 1), list(5, 2), f(3.5, 0, 1), f(1, 2.25)},
		{at(1, 0, 2, 0), at(9, 0), list(1, 2), list(9, 1), f(0, 0), f(0)},
		{at(-far, 1, far, 0.5), nil, list(-far, 1, 2*far-1, 1), nil, f(1, 0.5), nil},
		{at(0, math.MaxFloat64, 1, math.SmallestNonzeroFloat64), at(0, math.MaxFloat64), list(0, 2), list(0, 1), []uint64{infinite - 1, 1}, []uint64{infinite - 1}},
		// the same places and counts for both
		{at(3, 5), at(3, 5), list(3, 1), list(3, 1), f(5), f(5)},
	} {
		own := h
		want := F{Schema: h.Schema, Zero: h.Zero, ZeroCount: h.ZeroCount, Sum: h.Sum, Count: h.Count, Pos: c.l, Neg: c.m, PosCounts: c.x, NegCounts: c.y}
		wantMade(t, own, c.pos, c.neg, want)
		// what it had itself may be any
		own.Pos, own.PosCounts, own.Neg, own.NegCounts = list(0, -1), f(-1, -1), spans(api.MaxSpans+1, S{}), f(-1)
		wantMade(t, own, c.pos, c.neg, want)
	}
	same := at(3, 5)
	wantMade(t, F{Count: bits(1)}, same, same, F{Count: bits(1), Pos: list(3, 1), Neg: list(3, 1), PosCounts: f(5), NegCounts: f(5)})
}

func TestMakeAtTheLimits(t *testing.T) {
	wantMade(t, F{}, row(0, most, 1, 0.5), nil, F{Pos: list(0, most), PosCounts: slices.Repeat(f(0.5), most)})
	wantMade(t, F{}, nil, row(-9, most, 1, 0), F{Neg: list(-9, most), NegCounts: make([]uint64, most)})
	wantMadeRefused(t, F{}, row(0, most+1, 1, 1), nil, api.ErrMany)
	wantMadeRefused(t, F{}, nil, row(0, most+1, 1, 1), api.ErrMany)
	n := api.MaxSpans
	apart := append(list(0, 1), spans(n-1, sp(1, 1))...)
	wantMade(t, F{}, nil, row(0, n, 2, 1), F{Neg: apart, NegCounts: slices.Repeat(f(1), n)})
	wantMadeRefused(t, F{}, row(0, n+1, 2, 1), nil, api.ErrMany)
	wantMadeRefused(t, F{}, nil, row(0, n+1, 2, 1), api.ErrMany)
}

func TestMakeRefused(t *testing.T) {
	h, right := some(), at(3, 5)
	falls := [][]P{
		at(1, 2, 1, 3), at(2, 2, 1, 3), at(far+1, 5), at(-far-1, 5), at(far, 5, far+1, 0), at(3, 5, 4, 0, 4, 0),
		{{Place: math.MaxInt, V: 0}}, {{Place: math.MinInt, V: 0}}, at(1, -1, 1, -1),
	}
	wrong := [][]P{at(1, -1), at(1, 1, 2, -1), at(1, math.NaN()), at(1, math.Inf(1)), at(1, math.Copysign(0, -1)), at(1, -1, 2, 1)}
	for _, c := range []struct {
		lists [][]P
		e     api.Errno
	}{{falls, api.ErrRange}, {wrong, api.ErrCount}} {
		for _, l := range c.lists {
			for _, other := range [][]P{nil, right} {
				wantMadeRefused(t, h, l, other, c.e)
				wantMadeRefused(t, h, other, l, c.e)
			}
		}
	}
}

func TestMakeErrorsInTheirOrder(t *testing.T) {
	falls, wrong, many := at(1, 2, 1, 3), at(1, -1), row(0, api.MaxSpans+1, 2, 1)
	for _, h := range []F{some(), {Schema: 99}, {Zero: all}, {ZeroCount: sign}, {Count: sign}, {Schema: 99, Zero: all, Count: sign}} {
		for _, c := range []struct {
			pos, neg []P
			e        api.Errno
		}{
			{falls, falls, api.ErrRange}, {falls, many, api.ErrRange}, {falls, wrong, api.ErrRange}, {falls, nil, api.ErrRange},
			{many, falls, api.ErrMany}, {many, wrong, api.ErrMany}, {many, nil, api.ErrMany},
			{wrong, falls, api.ErrRange}, {wrong, many, api.ErrMany}, {nil, falls, api.ErrRange}, {nil, many, api.ErrMany},
			// too many that fall, too
			{append(row(0, most, 1, 1), P{}), nil, api.ErrRange}, {nil, append(row(0, most, 1, 1), P{}), api.ErrRange},
		} {
			wantMadeRefused(t, h, c.pos, c.neg, c.e)
		}
	}
	// Check's errors, of what comes
	for _, l := range [][]P{nil, at(3, 5), wrong} {
		wantMadeRefused(t, F{Schema: 9, Zero: all}, l, l, api.ErrSchema)
		wantMadeRefused(t, F{Schema: -5, Count: sign}, l, nil, api.ErrSchema)
		wantMadeRefused(t, F{Zero: infinite, ZeroCount: sign}, l, nil, api.ErrRange)
		wantMadeRefused(t, F{Zero: sign}, nil, l, api.ErrRange)
		wantMadeRefused(t, F{Count: infinite}, l, nil, api.ErrCount)
		wantMadeRefused(t, F{ZeroCount: sign}, nil, l, api.ErrCount)
	}
}

// P10.3: Canon

func TestCanon(t *testing.T) {
	for _, c := range []struct {
		l      []S
		counts []uint64
		want   []S
		left   []uint64
	}{
		// none
		{nil, nil, nil, nil},
		{[]S{}, []uint64{}, nil, nil},
		{list(7, 0, 3, 0), nil, nil, nil},
		// empty ones only
		{list(7, 1), f(0), nil, nil},
		{list(7, 3, 5, 2), f(0, 0, 0, 0, 0), nil, nil},
		// at the ends, and between
		{list(7, 3), f(0, 2.5, 5), list(8, 2), f(2.5, 5)},
		{list(7, 3), f(2.5, 5, 0), list(7, 2), f(2.5, 5)},
		{list(7, 3), f(0, 5, 0), list(8, 1), f(5)},
		{list(7, 3), f(5, 0, 1), list(7, 1, 1, 1), f(5, 1)},
		{list(7, 5), f(0, 4, 0, 6, 0), list(8, 1, 1, 1), f(4, 6)},
		{list(-2, 2, 3, 2), f(1, 0, 0, 2), list(-2, 1, 5, 1), f(1, 2)},
		{list(-far, 1, 2*far-1, 1), f(0, 3), list(far, 1), f(3)},
		// none empty: spans that touch or have no places become one
		{list(7, 2, 0, 1), f(1, 2, 3), list(7, 3), f(1, 2, 3)},
		{list(7, 0, 0, 1, 0, 0, 2, 1, 9, 0), f(1, 2), list(7, 1, 2, 1), f(1, 2)},
		// canonical
		{list(7, 2), f(1, 2), list(7, 2), f(1, 2)},
		{list(7, 2, 1, 1), f(1, 2, 1), list(7, 2, 1, 1), f(1, 2, 1)},
		// the least and the greatest counts
		{list(7, 3), []uint64{1, 0, infinite - 1}, list(7, 1, 1, 1), []uint64{1, infinite - 1}},
	} {
		h := F{Schema: -2, Zero: 5, ZeroCount: bits(2), Count: bits(3), Sum: 9}
		want := h
		h.Pos, h.PosCounts, want.Pos, want.PosCounts = c.l, c.counts, c.want, c.left
		wantCanon(t, h, want)
		wantCanon(t, flipped(h), flipped(want))
		// an empty zero bucket, and a Count of 0, stay as they are
		h.ZeroCount, h.Count, want.ZeroCount, want.Count = 0, 0, 0, 0
		wantCanon(t, h, want)
	}
	// both sides, each on its own
	canonical := turned(func(h *F) { h.Pos, h.PosCounts = list(-1, 1, 4, 1), f(3.5, 1) })
	wantCanon(t, some(), canonical)
	wantCanon(t, flipped(some()), flipped(canonical))
}

// alternating: n buckets that have one and nothing by turns, from 0 on.
func alternating(n int) F {
	h := F{Pos: list(0, n)}
	for i := range n {
		h.PosCounts = append(h.PosCounts, f(0.5, 0)[i%2])
	}
	return h
}

func TestCanonOfTooManySpans(t *testing.T) {
	n := api.MaxSpans
	want := F{Pos: append(list(0, 1), spans(n-1, sp(1, 1))...), PosCounts: slices.Repeat(f(0.5), n)}
	for _, h := range []F{alternating(2 * n), alternating(2*n - 1), want} {
		wantCanon(t, h, want)
		wantCanon(t, flipped(h), flipped(want))
	}
	for _, h := range []F{alternating(2*n + 1), alternating(2*n + 2), alternating(most)} {
		for _, x := range []F{h, flipped(h)} {
			wantRight(t, x)
			if got, e := fhist.Canon(x); e != api.ErrMany || !one(got, F{}) {
				t.Errorf("Canon(%s): %s, %d", show(x), show(got), e)
			}
			if !fhist.Equal(x, x) {
				t.Errorf("Equal(%s) of itself", show(x))
			}
		}
	}
}

// P10.3: Over

func TestOver(t *testing.T) {
	h := some()
	for _, c := range []struct {
		pos, neg []S
		x, y     []uint64
	}{
		// the same spans
		{h.Pos, h.Neg, h.PosCounts, h.NegCounts},
		// more: ahead, between, behind
		{list(-2, 7), list(5, 2), f(0, 3.5, 0, 0, 0, 0, 1), f(1, 2.25)},
		{list(-1, 2, 1, 1, 1, 1), list(4, 3), f(3.5, 0, 0, 1), f(0, 1, 2.25)},
		{list(-1, 2, 3, 2, 1, 1), list(5, 3), f(3.5, 0, 1, 0, 0), f(1, 2.25, 0)},
		{list(-far, 1, far-2, 2, 3, 1, far-5, 1), list(-9, 3, 11, 2, 7, 2), f(0, 3.5, 0, 1, 0), f(0, 0, 0, 1, 2.25, 0, 0)},
		// otherwise cut, and without places
		{list(-1, 1, 0, 1, 3, 1), list(5, 1, 0, 1), h.PosCounts, h.NegCounts},
		{list(-7, 0, 6, 2, 2, 0, 1, 1, 5, 0), list(5, 0, 0, 0, 0, 2, 0, 0), h.PosCounts, h.NegCounts},
		{list(-1, 1, 0, 0, 0, 2, 0, 0, 2, 1), list(5, 2, far-8, 1, 0, 0), f(3.5, 0, 0, 1), f(1, 2.25, 0)},
	} {
		want := h
		want.Pos, want.Neg, want.PosCounts, want.NegCounts = c.pos, c.neg, c.x, c.y
		wantOver(t, h, c.pos, c.neg, want)
		wantOver(t, flipped(h), c.neg, c.pos, flipped(want))
	}
}

func TestOverOfNone(t *testing.T) {
	for _, none := range []F{{}, {ZeroCount: bits(3), Count: bits(2)}, {Pos: list(4, 0), Neg: list(1, 0)}} {
		for _, c := range [][2][]S{{nil, nil}, {list(3, 2), nil}, {nil, list(3, 2)}, {list(3, 0), list(0, most)}, {spans(api.MaxSpans, S{}), spans(api.MaxSpans, sp(1, 1))}} {
			want := none
			want.Pos, want.PosCounts = c[0], make([]uint64, span.Count(c[0]))
			want.Neg, want.NegCounts = c[1], make([]uint64, span.Count(c[1]))
			wantOver(t, none, c[0], c[1], want)
		}
	}
}

func TestOverRefused(t *testing.T) {
	h := some()
	// a place fewer, an empty bucket's too, on either side
	for _, l := range [][]S{nil, list(-1, 0), list(-1, 2), list(-1, 1, 4, 1), list(0, 1, 3, 1), list(-1, 5), list(0, 9), list(5, 9), list(-far, 5), list(-1, 2, 4, 1)} {
		wantOverRefused(t, h, l, h.Neg, api.ErrLayout)
		wantOverRefused(t, h, l, nil, api.ErrLayout)
		wantOverRefused(t, flipped(h), h.Neg, l, api.ErrLayout)
		// other sides' places are no places of this one
		wantOverRefused(t, h, l, list(-9, 99), api.ErrLayout)
	}
	for _, l := range [][]S{nil, list(5, 1), list(6, 1), list(5, 1, 1, 1), list(4, 2), list(6, 7), list(-1, 2, 3, 1)} {
		wantOverRefused(t, h, h.Pos, l, api.ErrLayout)
		wantOverRefused(t, h, list(-9, 99), l, api.ErrLayout)
		wantOverRefused(t, flipped(h), l, h.Pos, api.ErrLayout)
	}
	empty := F{Pos: list(3, 1), PosCounts: f(0)}
	wantOverRefused(t, empty, nil, nil, api.ErrLayout)
	wantOverRefused(t, empty, list(2, 1, 1, 1), nil, api.ErrLayout)
	wantOverRefused(t, flipped(empty), list(3, 1), nil, api.ErrLayout)
	wantOver(t, empty, list(3, 1), nil, empty)
}

func TestOverWrongSpans(t *testing.T) {
	h := some()
	wrong := [][]S{
		list(0, -1), list(-1, 2, -1, 1), list(-9, 99, 0, -1), list(far+1, 0), list(-far-1, 99), list(far, 2), list(0, most+1), list(-9, most, 0, 1),
		list(math.MinInt, math.MinInt), list(math.MaxInt, math.MaxInt, math.MaxInt, math.MaxInt),
	}
	many := [][]S{spans(api.MaxSpans+1, S{}), spans(api.MaxSpans+1, sp(1, 1)), spans(api.MaxSpans+1, sp(-1, -1))}
	for _, x := range []F{h, flipped(h), {}} {
		for _, right := range [][]S{list(-9, 99), nil, list(40, 1)} { // where places are missing, too: ErrLayout comes later
			for _, l := range wrong {
				wantOverRefused(t, x, l, right, api.ErrSpan)
				wantOverRefused(t, x, right, l, api.ErrSpan)
				for _, m := range many {
					wantOverRefused(t, x, l, m, api.ErrSpan)
					wantOverRefused(t, x, m, l, api.ErrMany)
				}
			}
			for _, m := range many {
				wantOverRefused(t, x, m, right, api.ErrMany)
				wantOverRefused(t, x, right, m, api.ErrMany)
			}
		}
	}
}

// P10.3: Equal

func TestEqual(t *testing.T) {
	// the same counts, with other spans and empty buckets
	alike := []F{
		some(),
		turned(func(h *F) { h.Pos, h.PosCounts = list(-1, 1, 4, 1), f(3.5, 1) }),
		turned(func(h *F) { h.Pos = list(-1, 1, 0, 1, 3, 1) }),
		turned(func(h *F) { h.Pos, h.PosCounts = list(-3, 9, 100, 1), f(0, 0, 3.5, 0, 0, 0, 0, 1, 0, 0) }),
		turned(func(h *F) { h.Neg = list(5, 1, 0, 0, 0, 1, 4, 0) }),
		turned(func(h *F) { h.Neg, h.NegCounts = list(-far, 1, far+4, 2, far-7, 1), f(0, 1, 2.25, 0) }),
	}
	for _, a := range alike {
		wantRight(t, a)
		for _, b := range alike {
			if !fhist.Equal(a, b) {
				t.Errorf("Equal(%s, %s): false", show(a), show(b))
			}
		}
	}
	// what differs in one number, or at one place of one side
	others := []F{
		turned(func(h *F) { h.Schema++ }),
		turned(func(h *F) { h.Schema-- }),
		turned(func(h *F) { h.Zero++ }),
		turned(func(h *F) { h.ZeroCount++ }),
		turned(func(h *F) { h.ZeroCount = 0 }),
		turned(func(h *F) { h.Count++ }),
		turned(func(h *F) { h.Count-- }),
		turned(func(h *F) { h.Sum++ }),
		turned(func(h *F) { h.Sum ^= sign }),
		turned(func(h *F) { h.PosCounts[0]++ }),
		turned(func(h *F) { h.PosCounts[1]++ }),
		turned(func(h *F) { h.PosCounts[2]-- }),
		turned(func(h *F) { h.PosCounts[0] = 0 }),
		turned(func(h *F) { h.PosCounts = f(1, 0, 3.5) }),
		turned(func(h *F) { h.PosCounts = f(0, 3.5, 1) }),
		turned(func(h *F) { h.NegCounts[0]++ }),
		turned(func(h *F) { h.NegCounts[1]-- }),
		turned(func(h *F) { h.NegCounts = f(2.25, 1) }),
		turned(func(h *F) { h.Pos = list(-1, 2, 4, 1) }),
		turned(func(h *F) { h.Pos = list(-2, 2, 4, 1) }),
		turned(func(h *F) { h.Neg = list(4, 2) }),
		turned(func(h *F) { h.Neg = list(5, 1, 1, 1) }),
		turned(func(h *F) { h.Pos, h.PosCounts = nil, nil }),
		turned(func(h *F) { h.Neg, h.NegCounts = nil, nil }),
		turned(func(h *F) { h.Pos, h.PosCounts = list(-1, 2, 3, 2), f(3.5, 0, 1, 1) }),
		turned(func(h *F) { h.Neg, h.NegCounts = list(5, 3), f(1, 2.25, 1) }),
		flipped(some()),
		{},
	}
	for _, b := range others {
		wantRight(t, b)
		for _, a := range alike {
			if fhist.Equal(a, b) || fhist.Equal(b, a) {
				t.Errorf("Equal(%s, %s)", show(a), show(b))
			}
		}
	}
}

func TestEqualOfNumbersAlone(t *testing.T) {
	base := F{Schema: 1, Zero: 2, ZeroCount: 3, Count: 9, Sum: noNumber}
	for i, turn := range []func(h *F){
		func(h *F) {}, func(h *F) { h.Schema = 2 }, func(h *F) { h.Zero = 3 }, func(h *F) { h.ZeroCount = 4 }, func(h *F) { h.Count = 10 },
		func(h *F) { h.Sum++ }, func(h *F) { h.Sum |= sign }, func(h *F) { h.Pos, h.PosCounts = list(1, 1), f(1) }, func(h *F) { h.Neg, h.NegCounts = list(1, 1), f(1) },
		// numbers that change places
		func(h *F) { h.Zero, h.ZeroCount = 3, 2 }, func(h *F) { h.ZeroCount, h.Count = 9, 3 },
	} {
		h := base
		turn(&h)
		wantRight(t, h)
		if fhist.Equal(h, base) != (i == 0) || fhist.Equal(base, h) != (i == 0) {
			t.Errorf("Equal(%s, %s): %v", show(h), show(base), i != 0)
		}
	}
	// a sum's bits are what is held: a nought with a sign isn't one without
	if fhist.Equal(F{Sum: sign}, F{}) || !fhist.Equal(F{Sum: sign}, F{Sum: sign}) || !fhist.Equal(base, base) {
		t.Errorf("Equal of sums")
	}
	// schemas below 0, too
	for a := -4; a <= 8; a++ {
		for b := -4; b <= 8; b++ {
			if fhist.Equal(F{Schema: a}, F{Schema: b}) != (a == b) {
				t.Errorf("Equal of schemas %d, %d", a, b)
			}
		}
	}
}

func TestEqualOfWhatIsNotRight(t *testing.T) {
	for _, x := range faults() {
		h := turned(x.turn)
		if fhist.Equal(h, h) || fhist.Equal(h, some()) || fhist.Equal(some(), h) {
			t.Errorf("Equal of %s", x.name)
		}
	}
}

// P10.4: Float

func wantFloat(t *testing.T, n, want uint64) {
	t.Helper()
	if got := fhist.Float(n); got != want {
		t.Errorf("Float(%d): %x; want %x", n, got, want)
	}
	if got := modelFloat(n); got != want {
		t.Errorf("the model tells %x of %d; want %x", got, n, want)
	}
}

func TestFloat(t *testing.T) {
	wantFloat(t, 0, 0)
	wantFloat(t, 1, 0x3ff0000000000000)
	wantFloat(t, 2, 0x4000000000000000)
	wantFloat(t, 3, 0x4008000000000000)
	wantFloat(t, two53-1, 0x433fffffffffffff)
	wantFloat(t, top, 0x43e0000000000000)
	wantFloat(t, 1<<63, 0x43e0000000000000)
	wantFloat(t, greatest, 0x43efffffffffffff)
	wantFloat(t, all, 0x43f0000000000000)
	for n := range uint64(5000) {
		wantFloat(t, n, bits(float64(int32(n))))
	}
}

func TestFloatOfPowersAndTheirNeighbours(t *testing.T) {
	for e := range 64 {
		power := uint64(1023+e) << 52
		n := uint64(1) << e
		wantFloat(t, n, power)
		if e == 0 {
			continue
		}
		below, above := uint64(0), uint64(0) // how far the bits lie from the power's
		if e <= 53 {
			below = 1 << (53 - e)
		}
		if e <= 52 {
			above = 1 << (52 - e)
		}
		wantFloat(t, n-1, power-below)
		wantFloat(t, n+1, power+above)
	}
}

// between: whole numbers that lie just between two floats, a bit to either side of that, and what they have to go to.
func between(told func(n, want uint64)) {
	for e := 53; e < 64; e++ {
		step := uint64(1) << (e - 52) // from a float to the next one
		half := step / 2
		for _, k := range []uint64{0, 1, 2, 3, 4, 5, 1 << 51, 1<<51 + 1, 1<<52 - 4, 1<<52 - 3, 1<<52 - 2, 1<<52 - 1} {
			float, n := uint64(1023+e)<<52+k, uint64(1)<<e+k*step
			told(n, float)
			told(n+half, float+k%2) // to the even one: below where k is even, above where it is odd
			if half > 1 {
				told(n+1, float)
				told(n+half-1, float)
				told(n+half+1, float+1)
				told(n+step-1, float+1)
			}
		}
	}
}

func TestFloatBetweenTwo(t *testing.T) {
	wantFloat(t, two53+1, bits(two53))
	wantFloat(t, two53+3, bits(two53+4))
	wantFloat(t, all-1023, 0x43f0000000000000) // 2^64 - 1024: between the greatest below 2^64, which is odd, and that
	wantFloat(t, all-1024, 0x43efffffffffffff)
	between(func(n, want uint64) { wantFloat(t, n, want) })
}

func TestFloatIsTheNearest(t *testing.T) {
	random := rand.New(rand.NewSource(2))
	for range 100000 {
		n := random.Uint64() >> random.Intn(64)
		if random.Intn(2) == 0 {
			n &= all << random.Intn(64)
		}
		n += uint64(random.Intn(3)) - 1
		wantFloat(t, n, modelFloat(n))
	}
}

// P10.4: Whole

func wantWhole(t *testing.T, v, want uint64) {
	t.Helper()
	if got, ok := fhist.Whole(v); !ok || got != want {
		t.Errorf("Whole(%x): %d, %v; want %d", v, got, ok, want)
	}
}

func wantNotWhole(t *testing.T, v uint64) {
	t.Helper()
	if got, ok := fhist.Whole(v); ok || got != 0 {
		t.Errorf("Whole(%x): %d, %v", v, got, ok)
	}
}

func TestWhole(t *testing.T) {
	wantWhole(t, 0, 0)
	for n := range uint64(5000) {
		wantWhole(t, fhist.Float(n), n)
	}
	for e := range 64 {
		n := uint64(1) << e
		wantWhole(t, uint64(1023+e)<<52, n)
		if e <= 53 {
			wantWhole(t, fhist.Float(n-1), n-1)
		}
		if e < 53 {
			wantWhole(t, fhist.Float(n+1), n+1)
		}
	}
	wantWhole(t, bits(1<<63), 1<<63)
	wantWhole(t, bits(1<<63)-1, 1<<63-1024)
	wantWhole(t, bits(1<<63)+1, 1<<63+2048)
	wantWhole(t, 0x43efffffffffffff, greatest)
	wantWhole(t, bits(1<<52)+1, 1<<52+1)
}

func TestWholeOfTheFloatsBetween(t *testing.T) {
	between(func(n, float uint64) {
		for _, v := range []uint64{fhist.Float(n), float} {
			if v == 0x43f0000000000000 { // 2^64
				wantNotWhole(t, v)
				continue
			}
			want, ok := modelWhole(v)
			if !ok {
				t.Errorf("the model refuses %x", v)
			}
			wantWhole(t, v, want)
		}
	})
}

func TestNotWhole(t *testing.T) {
	// below 1
	for _, x := range []float64{math.SmallestNonzeroFloat64, 1e-300, 0.1, 0.25, 0.5, math.Nextafter(1, 0)} {
		wantNotWhole(t, bits(x))
	}
	// between two whole numbers: beside each power up to the one from which on there are none
	for e := range 53 {
		n := math.Ldexp(1, e)
		wantNotWhole(t, bits(math.Nextafter(n, 0)))
		if e < 52 {
			wantNotWhole(t, bits(math.Nextafter(n, math.Inf(1))))
			wantNotWhole(t, bits(n+0.5))
		}
	}
	for _, x := range []float64{1.5, 2.5, 1<<51 + 0.5, 1<<52 - 0.5, 123456.75} {
		wantNotWhole(t, bits(x))
	}
	// 2^64 and above
	for _, v := range []uint64{0x43f0000000000000, 0x43f0000000000001, bits(1 << 65), bits(1e300), infinite - 1} {
		wantNotWhole(t, v)
	}
	// what is no right count
	for _, v := range append(notRight(), bits(math.Copysign(0, -1)), bits(-3), bits(-0.5), bits(-1<<63), bits(-1<<64), bits(math.NaN()), bits(math.Inf(-1))) {
		wantNotWhole(t, v)
	}
}

func TestWholeAgainstTheModel(t *testing.T) {
	random := rand.New(rand.NewSource(3))
	seen := map[bool]int{}
	for range 200000 {
		v := random.Uint64()
		switch random.Intn(3) {
		case 0: // as great as whole numbers are, and with few bits
			v = uint64(1020+random.Intn(70))<<52 | v>>12&(all<<random.Intn(53))
		case 1:
			v = fhist.Float(v>>random.Intn(64)) + uint64(random.Intn(3)) - 1
		}
		want, wantOK := modelWhole(v)
		if n, ok := fhist.Whole(v); n != want || ok != wantOK {
			t.Fatalf("Whole(%x): %d, %v; want %d, %v", v, n, ok, want, wantOK)
		}
		seen[wantOK]++
	}
	if seen[true] < 10000 || seen[false] < 10000 {
		t.Errorf("too few of a kind: %v", seen)
	}
}

// P10.4: From

func TestFrom(t *testing.T) {
	wantFrom(t, H{}, F{})
	h := H{Schema: -4, Zero: 5, ZeroCount: 1, Count: 13, Sum: noNumber, Pos: list(2, 2), PosDeltas: d(4, -2), Neg: list(-9, 1, 2, 1), NegDeltas: d(1, 2)}
	want := F{Schema: -4, Zero: 5, ZeroCount: bits(1), Count: bits(13), Sum: noNumber, Pos: list(2, 2), PosCounts: f(4, 2), Neg: list(-9, 1, 2, 1), NegCounts: f(1, 3)}
	wantFrom(t, h, want)
	wantFrom(t, flippedWhole(h), flipped(want))
	// with empty buckets, and spans that aren't canonical, on the same spans
	h = H{Schema: 8, Count: 7, Pos: list(2, 1, 0, 1, 0, 0, 3, 2, 9, 0), PosDeltas: d(0, 7, -7, 0), Neg: list(4, 0)}
	want = F{Schema: 8, Count: bits(7), Pos: list(2, 1, 0, 1, 0, 0, 3, 2, 9, 0), PosCounts: f(0, 7, 0, 0), Neg: list(4, 0)}
	wantFrom(t, h, want)
	wantFrom(t, flippedWhole(h), flipped(want))
	// counts that no float has
	h = H{ZeroCount: two53 + 1, Count: 3*two53 + 5, Pos: list(0, 1), PosDeltas: d(two53 + 3), Neg: list(0, 1), NegDeltas: d(two53 + 1)}
	want = F{ZeroCount: bits(two53), Count: bits(3*two53 + 4), Pos: list(0, 1), PosCounts: f(two53 + 4), Neg: list(0, 1), NegCounts: f(two53)}
	wantFrom(t, h, want)
	wantFrom(t, flippedWhole(h), flipped(want))
	// the greatest
	h = H{ZeroCount: 1, Count: all, Pos: list(0, 2), PosDeltas: d(top, -top), Neg: list(3, 1), NegDeltas: d(top)}
	want = F{ZeroCount: bits(1), Count: bits(1 << 64), Pos: list(0, 2), PosCounts: f(1<<63, 0), Neg: list(3, 1), NegCounts: f(1 << 63)}
	wantFrom(t, h, want)
	wantFrom(t, H{ZeroCount: all, Count: all}, F{ZeroCount: bits(1 << 64), Count: bits(1 << 64)})
	// as many as there may be
	h = H{Pos: list(0, most), PosDeltas: make([]int64, most), Neg: spans(api.MaxSpans, S{})}
	wantFrom(t, h, F{Pos: list(0, most), PosCounts: make([]uint64, most), Neg: spans(api.MaxSpans, S{})})
}

func TestFromRefused(t *testing.T) {
	for _, c := range []struct {
		h H
		e api.Errno
	}{
		{H{Schema: 9}, api.ErrSchema}, {H{Schema: -5, Zero: sign}, api.ErrSchema},
		{H{Zero: infinite}, api.ErrRange}, {H{Zero: sign, Count: 1}, api.ErrRange},
		{H{Pos: list(0, -1), PosDeltas: d(1)}, api.ErrSpan}, {H{Neg: list(far, 2)}, api.ErrSpan},
		{H{Pos: spans(api.MaxSpans+1, S{})}, api.ErrMany}, {H{Neg: spans(api.MaxSpans+1, S{}), Count: 1}, api.ErrMany},
		{H{Pos: list(0, 1)}, api.ErrLayout}, {H{NegDeltas: d(1)}, api.ErrLayout},
		{H{Pos: list(0, 2), PosDeltas: d(top, 1)}, api.ErrOverflow}, {H{Neg: list(0, 2), NegDeltas: d(-2, math.MinInt64)}, api.ErrOverflow},
		{H{Pos: list(0, 1), PosDeltas: d(-1)}, api.ErrCount}, {H{Neg: list(0, 2), NegDeltas: d(1, -2), Count: 1}, api.ErrCount},
		{H{Count: 1}, api.ErrCount}, {H{ZeroCount: 1}, api.ErrCount}, {H{ZeroCount: 2, Count: 1, Sum: noNumber}, api.ErrCount},
		{H{Pos: list(0, 1), PosDeltas: d(2), Count: 1}, api.ErrCount},
	} {
		if hist.Check(c.h) != c.e {
			t.Errorf("layer 9 tells %d of %s", hist.Check(c.h), showWhole(c.h))
		}
		if got, e := fhist.From(c.h); e != c.e || !one(got, F{}) {
			t.Errorf("From(%s): %s, %d; want %d", showWhole(c.h), show(got), e, c.e)
		}
	}
}

// P10.4: Back

func TestBack(t *testing.T) {
	for _, c := range []struct {
		h    F
		want H
	}{
		{F{}, H{}},
		{even(), H{Schema: -2, Zero: 7, ZeroCount: 2, Count: 10, Sum: bits(-3.5), Pos: list(-1, 2, 3, 1), PosDeltas: d(3, -3, 1), Neg: list(5, 2), NegDeltas: d(1, 2)}},
		// with empty buckets, and spans that aren't canonical, on the same spans
		{F{Count: bits(7), Pos: list(2, 1, 0, 1, 0, 0, 3, 2, 9, 0), PosCounts: f(0, 7, 0, 0), Neg: list(4, 0)}, H{Count: 7, Pos: list(2, 1, 0, 1, 0, 0, 3, 2, 9, 0), PosDeltas: d(0, 7, -7, 0), Neg: list(4, 0)}},
		// ZeroCount and Count at 2^63 and more
		{F{ZeroCount: bits(1 << 63), Count: bits(1 << 63)}, H{ZeroCount: 1 << 63, Count: 1 << 63}},
		{F{ZeroCount: 0x43efffffffffffff, Count: 0x43efffffffffffff}, H{ZeroCount: greatest, Count: greatest}},
		{F{Count: 0x43efffffffffffff, Sum: noNumber}, H{Count: greatest, Sum: noNumber}},
		{F{Count: bits(1 << 63), Pos: list(0, 1), PosCounts: f(1 << 62), Neg: list(0, 1), NegCounts: f(1 << 62)}, H{Count: 1 << 63, Pos: list(0, 1), PosDeltas: d(1 << 62), Neg: list(0, 1), NegDeltas: d(1 << 62)}},
		// the greatest float below 2^63, in a bucket
		{F{Count: bits(1<<63 - 1024), Pos: list(0, 1), PosCounts: f(1<<63 - 1024)}, H{Count: 1<<63 - 1024, Pos: list(0, 1), PosDeltas: d(1<<63 - 1024)}},
		{F{Count: 0x43efffffffffffff, Pos: list(0, 3), PosCounts: f(1<<63-1024, 0, 1<<63-1024)}, H{Count: greatest, Pos: list(0, 3), PosDeltas: d(1<<63-1024, 1024-1<<63, 1<<63-1024)}},
		// fewer than Count, with a sum that is no number
		{F{ZeroCount: bits(1), Count: bits(9), Sum: noNumber, Neg: list(5, 1), NegCounts: f(3)}, H{ZeroCount: 1, Count: 9, Sum: noNumber, Neg: list(5, 1), NegDeltas: d(3)}},
	} {
		for i, h := range []F{c.h, flipped(c.h)} {
			want := []H{c.want, flippedWhole(c.want)}[i]
			if got, e := fhist.Back(h); e != api.OK || !oneWhole(got, want) {
				t.Errorf("Back(%s): %s, %d; want %s", show(h), showWhole(got), e, showWhole(want))
			}
			wantRight(t, h)
		}
	}
}

func TestBackOfWhatIsNotWhole(t *testing.T) {
	for _, v := range []uint64{1, bits(0.5), bits(1.5), bits(3) + 1, bits(3) - 1, bits(1<<52 - 0.5), bits(1 << 64), bits(1e300), infinite - 1} {
		for _, turn := range []func(h *F){
			func(h *F) { h.ZeroCount = v },
			func(h *F) { h.Count = v },
			func(h *F) { h.PosCounts[0] = v },
			func(h *F) { h.PosCounts[1] = v },
			func(h *F) { h.PosCounts[2] = v },
			func(h *F) { h.NegCounts[0] = v },
			func(h *F) { h.NegCounts[1] = v },
		} {
			for _, h := range []F{turnedEven(turn), flipped(turnedEven(turn))} {
				wantBackRefused(t, h, api.ErrForm)
				// ahead of the totals, with a sum that is no number too
				h.Sum = noNumber
				wantBackRefused(t, h, api.ErrForm)
			}
		}
	}
}

func TestBackOfGreatBuckets(t *testing.T) {
	for _, v := range []uint64{bits(1 << 63), bits(1<<63) + 1, 0x43efffffffffffff} {
		for _, turn := range []func(h *F){
			func(h *F) { h.PosCounts[0] = v },
			func(h *F) { h.PosCounts[1] = v },
			func(h *F) { h.PosCounts[2] = v },
			func(h *F) { h.PosCounts = []uint64{v, v, v} },
			func(h *F) { h.PosCounts[1], h.Count, h.Sum = v, 0x43efffffffffffff, noNumber },
			func(h *F) { *h = F{Count: v, Pos: list(0, 1), PosCounts: []uint64{v}} },
		} {
			wantBackRefused(t, turnedEven(turn), api.ErrOverflow)
			wantBackRefused(t, flipped(turnedEven(turn)), api.ErrOverflow)
		}
	}
}

func TestBackErrorsInTheirOrder(t *testing.T) {
	overflow := []func(h *F){
		func(h *F) { h.PosCounts = f(1<<63, 0, 1) },
		func(h *F) { h.NegCounts = f(1, 1<<63) },
		func(h *F) { h.PosCounts, h.NegCounts = f(0, 0, 1<<63), f(1<<63, 1<<63) },
	}
	form := []func(h *F){
		func(h *F) { h.ZeroCount = bits(0.5) },
		func(h *F) { h.Count = bits(0.5) },
		func(h *F) { h.PosCounts = append(h.PosCounts[:2:2], bits(0.5)) },
		func(h *F) { h.PosCounts = append(f(0.5), h.PosCounts[1:]...) },
		func(h *F) { h.NegCounts = append(h.NegCounts[:1:1], bits(0.5)) },
		func(h *F) { h.NegCounts = append(f(0.5), h.NegCounts[1:]...) },
	}
	total := func(h *F) { h.Count = bits(1) }
	for i, x := range overflow {
		for j, y := range form {
			if i == 0 && j == 3 || i == 1 && j == 4 || i == 2 && j >= 2 { // these would take the great count away
				continue
			}
			for _, h := range []F{turnedEven(x, y), flipped(turnedEven(x, y)), turnedEven(total, x, y)} {
				wantBackRefused(t, h, api.ErrForm)
			}
		}
		wantBackRefused(t, turnedEven(x, total), api.ErrOverflow)
		wantBackRefused(t, flipped(turnedEven(x, total)), api.ErrOverflow)
	}
	wantBackRefused(t, turnedEven(total), api.ErrCount)
	// Check's errors are ahead of all of these
	for _, wrong := range faults() {
		for _, turn := range slices.Concat(overflow, form) {
			h := turnedEven(turn, wrong.turn)
			_, _, e := model(h)
			if e == api.OK {
				t.Errorf("%s: the model has no error of it", wrong.name)
			}
			wantBackRefused(t, h, e)
		}
	}
}

func TestBackOfTotals(t *testing.T) {
	for _, sum := range []uint64{0, sign, 1, infinite, sign | infinite, bits(-7)} {
		for _, count := range []float64{0, 1, 9, 11, 1 << 63, greatest} {
			wantBackRefused(t, turnedEven(func(h *F) { h.Sum, h.Count = sum, bits(count) }), api.ErrCount)
		}
		wantRight(t, turnedEven(func(h *F) { h.Sum = sum }))
	}
	for _, sum := range []uint64{noNumber, infinite + 1, sign | infinite + 1, all} {
		for _, count := range []float64{0, 1, 2, 9} {
			wantBackRefused(t, turnedEven(func(h *F) { h.Sum, h.Count = sum, bits(count) }), api.ErrCount)
		}
		for _, count := range []float64{10, 11, 1 << 63, greatest} {
			h := turnedEven(func(h *F) { h.Sum, h.Count = sum, bits(count) })
			if got, e := fhist.Back(h); e != api.OK || got.Count != uint64(count) || got.Sum != sum {
				t.Errorf("Back(%s): %s, %d", show(h), showWhole(got), e)
			}
			wantRight(t, h)
		}
	}
	// counts that go beyond 64 bits together, and would come round to Count
	half := float64(1 << 62)
	for _, count := range []float64{0, 1 << 62, 1 << 63, greatest} {
		for _, h := range []F{
			{Pos: list(0, 4), PosCounts: f(half, half, half, half)},
			{Pos: list(0, 5), PosCounts: f(half, half, half, half, half)},
			{Pos: list(0, 2), PosCounts: f(half, half), Neg: list(0, 2), NegCounts: f(half, half)},
			{ZeroCount: bits(1 << 63), Pos: list(0, 1), PosCounts: f(half), Neg: list(0, 1), NegCounts: f(half)},
		} {
			for _, sum := range []uint64{0, noNumber} {
				h.Count, h.Sum = bits(count), sum
				wantBackRefused(t, h, api.ErrCount)
			}
		}
	}
}

// There and back again

// anyWhole: a histogram of whole counts, none above a bound, on spans of any cut.
func anyWhole(random *rand.Rand, bound int64) H {
	h := H{Schema: random.Intn(13) - 4, Zero: uint64(random.Intn(3)), ZeroCount: uint64(random.Int63n(bound/8 + 1)), Sum: []uint64{0, sign | 5, noNumber}[random.Intn(3)]}
	h.Count = h.ZeroCount
	side := func() ([]S, []int64) {
		var l []S
		var counts []int64
		for range random.Intn(4) {
			l = append(l, sp(random.Intn(3), random.Intn(4)))
		}
		places := int64(span.Count(l))
		for range places {
			n := random.Int63n(bound/(4*places)+1) * int64(random.Intn(3)) / 2
			counts = append(counts, n)
			h.Count += uint64(n)
		}
		deltas, _ := pairs.Deltas(counts)
		return l, deltas
	}
	h.Pos, h.PosDeltas = side()
	h.Neg, h.NegDeltas = side()
	if h.Sum == noNumber {
		h.Count += uint64(random.Int63n(bound/8 + 1))
	}
	return h
}

func TestFromComesBack(t *testing.T) {
	random := rand.New(rand.NewSource(4))
	for range 20000 {
		h := anyWhole(random, 1<<random.Intn(54))
		if e := hist.Check(h); e != api.OK || h.Count > two53 {
			t.Fatalf("%s: %d", showWhole(h), e)
		}
		x, e := fhist.From(h)
		if e != api.OK || fhist.Check(x) != api.OK {
			t.Errorf("From(%s): %s, %d", showWhole(h), show(x), e)
		}
		if back, e := fhist.Back(x); e != api.OK || !oneWhole(back, h) {
			t.Errorf("Back(From(%s)): %s, %d", showWhole(h), showWhole(back), e)
		}
	}
	for _, h := range []H{
		{ZeroCount: two53, Count: two53},
		{Count: two53, Pos: list(3, 1), PosDeltas: d(two53)},
		{Count: two53, Sum: noNumber, Neg: list(3, 2), NegDeltas: d(two53-1, 1-two53)},
	} {
		x, _ := fhist.From(h)
		if back, e := fhist.Back(x); e != api.OK || !oneWhole(back, h) {
			t.Errorf("Back(From(%s)): %s, %d", showWhole(h), showWhole(back), e)
		}
	}
}

func TestFromAgainstTheModel(t *testing.T) {
	random := rand.New(rand.NewSource(5))
	for range 20000 {
		h := anyWhole(random, 1<<random.Intn(63))
		if random.Intn(20) == 0 {
			h.Count += uint64(random.Intn(3)) - 1
		}
		want, wantE := modelFrom(h)
		got, e := fhist.From(h)
		if e != wantE || !one(got, want) {
			t.Fatalf("From(%s): %s, %d; want %s, %d", showWhole(h), show(got), e, show(want), wantE)
		}
		if e == api.OK {
			wantBack(t, got)
		}
	}
}

// Against the model

// anyCount: mostly small and whole.
func anyCount(random *rand.Rand) uint64 {
	switch random.Intn(60) {
	case 0:
		return notRight()[random.Intn(len(notRight()))]
	case 1:
		return []uint64{1, bits(0.5), infinite - 1, bits(1 << 64), bits(2.5)}[random.Intn(5)]
	case 2:
		return []uint64{bits(1 << 63), bits(1<<63) - 1, bits(1 << 62), 0x43efffffffffffff}[random.Intn(4)]
	}
	return bits(float64(random.Intn(4)))
}

// anySide: spans, few of which are wrong, and as many counts, mostly.
func anySide(random *rand.Rand) ([]S, []uint64) {
	var l []S
	for range random.Intn(4) {
		l = append(l, sp(random.Intn(3), random.Intn(4)))
	}
	if len(l) > 0 && random.Intn(30) == 0 {
		l[random.Intn(len(l))] = sp(random.Intn(5)-2, random.Intn(5)-2)
	}
	var counts []uint64
	for range span.Count(l) {
		counts = append(counts, anyCount(random))
	}
	if random.Intn(30) == 0 {
		counts = append(counts, bits(1))
	}
	return l, counts
}

// anyHist: mostly right.
func anyHist(random *rand.Rand) F {
	h := F{Schema: random.Intn(2), Zero: uint64(random.Intn(2)), ZeroCount: bits(float64(random.Intn(2)))}
	h.Pos, h.PosCounts = anySide(random)
	h.Neg, h.NegCounts = anySide(random)
	total := math.Float64frombits(h.ZeroCount)
	for _, v := range slices.Concat(h.PosCounts, h.NegCounts) {
		total += math.Float64frombits(v)
	}
	if h.Count = bits(total); !modelRight(h.Count) {
		h.Count = bits(1)
	}
	switch random.Intn(20) {
	case 0:
		h.Count = anyCount(random)
	case 1:
		h.Sum, h.Count = noNumber, bits(total+float64(random.Intn(3)-1))
	case 2:
		h.Schema = random.Intn(20) - 7
	case 3:
		h.Zero = infinite + uint64(random.Intn(3)) - 1
	case 4:
		h.ZeroCount = anyCount(random)
	}
	return h
}

func TestAgainstTheModel(t *testing.T) {
	random := rand.New(rand.NewSource(6))
	seen := map[api.Errno]int{}
	for range 30000 {
		h := anyHist(random)
		_, _, e := model(h)
		seen[e]++
		if e != api.OK {
			wantWrong(t, h, e)
		} else {
			wantRight(t, h)
		}
		pos, _ := anySide(random)
		neg, _ := anySide(random)
		want, e := modelOver(h, pos, neg)
		if got, x := fhist.Over(h, pos, neg); x != e || !one(got, want) {
			t.Fatalf("Over(%s, %v, %v): %s, %d; want %s, %d", show(h), pos, neg, show(got), x, show(want), e)
		}
		seen[100+e]++
		_, e = modelBack(h)
		seen[200+e]++
	}
	for _, e := range []api.Errno{
		api.OK, api.ErrSchema, api.ErrRange, api.ErrSpan, api.ErrLayout, api.ErrCount,
		100, 100 + api.ErrLayout, 200, 200 + api.ErrForm, 200 + api.ErrOverflow, 200 + api.ErrCount,
	} {
		if seen[e] < 50 {
			t.Errorf("too few of a kind: %v", seen)
		}
	}
}

func TestEqualAgainstTheModel(t *testing.T) {
	random := rand.New(rand.NewSource(7))
	seen := [2]int{}
	var l []F
	for range 700 {
		h := anyHist(random)
		l = append(l, h)
		if c, e := fhist.Canon(h); e == api.OK {
			l = append(l, c)
		}
	}
	for _, a := range l {
		for _, b := range l[:200] {
			want := modelEqual(a, b)
			if got := fhist.Equal(a, b); got != want {
				t.Fatalf("Equal(%s, %s): %v", show(a), show(b), got)
			}
			if want {
				seen[1]++
			} else {
				seen[0]++
			}
		}
	}
	if seen[0] < 1000 || seen[1] < 300 {
		t.Errorf("too few of a kind: %v", seen)
	}
}

func TestMakeAgainstTheModel(t *testing.T) {
	random := rand.New(rand.NewSource(8))
	seen := map[api.Errno]int{}
	for range 20000 {
		h := anyHist(random)
		pos, neg, e := model(h)
		if e != api.OK {
			continue
		}
		if random.Intn(3) == 0 { // one count is another one, and one place
			for _, l := range [][]P{pos, neg} {
				if len(l) > 0 {
					l[random.Intn(len(l))].V = []uint64{0, bits(0.5), sign}[random.Intn(3)]
					l[random.Intn(len(l))].Place += random.Intn(3) - 1
				}
			}
		}
		got, e := fhist.Make(F{Schema: h.Schema, Zero: h.Zero, ZeroCount: h.ZeroCount, Count: h.Count, Sum: h.Sum}, pos, neg)
		seen[e]++
		if e != api.OK {
			if !one(got, F{}) {
				t.Errorf("Make: %s, %d", show(got), e)
			}
			continue
		}
		x, y, e := model(got)
		if e != api.OK || got.Schema != h.Schema || got.Zero != h.Zero || got.ZeroCount != h.ZeroCount || got.Count != h.Count || got.Sum != h.Sum ||
			!slices.Equal(x, pos) || !slices.Equal(y, neg) || !span.Canonical(got.Pos) || !span.Canonical(got.Neg) {
			t.Errorf("Make(%s, %v, %v): %s", show(h), pos, neg, show(got))
		}
	}
	if seen[api.OK] < 5000 || seen[api.ErrCount] < 500 || seen[api.ErrRange] < 500 {
		t.Errorf("too few of a kind: %v", seen)
	}
}

// The rules on memory

// roomy: a list whose spare room is filled, so that an answer that lies in it would be seen.
func roomy[T any](spare T, l []T) []T {
	whole := append(slices.Clone(l), spare, spare, spare, spare, spare, spare)
	return whole[:len(l)]
}

// wide and wideWhole: a histogram with room behind all of its lists.
func wide(h F) F {
	h.Pos, h.Neg, h.PosCounts, h.NegCounts = roomy(sp(7, 7), h.Pos), roomy(sp(8, 8), h.Neg), roomy(66, h.PosCounts), roomy(77, h.NegCounts)
	return h
}

func wideWhole(h H) H {
	h.Pos, h.Neg, h.PosDeltas, h.NegDeltas = roomy(sp(7, 7), h.Pos), roomy(sp(8, 8), h.Neg), roomy(66, h.PosDeltas), roomy(77, h.NegDeltas)
	return h
}

// whole and wholeOfWhole: all that its lists have room for.
func whole(h F) F {
	h.Pos, h.Neg, h.PosCounts, h.NegCounts = room(h.Pos), room(h.Neg), room(h.PosCounts), room(h.NegCounts)
	return h
}

func wholeOfWhole(h H) H {
	h.Pos, h.Neg, h.PosDeltas, h.NegDeltas = room(h.Pos), room(h.Neg), room(h.PosDeltas), room(h.NegDeltas)
	return h
}

func room[T any](l []T) []T { return slices.Clone(l[:cap(l)]) }

// spoil: all that a list has room for is other than it was.
func spoil[T any](l []T, v T) {
	l = l[:cap(l)]
	for i := range l {
		l[i] = v
	}
}

func spoilHist(h F) {
	spoil(h.Pos, sp(-5, -5))
	spoil(h.Neg, sp(-6, -6))
	spoil(h.PosCounts, 55)
	spoil(h.NegCounts, 66)
}

func spoilWhole(h H) {
	spoil(h.Pos, sp(-5, -5))
	spoil(h.Neg, sp(-6, -6))
	spoil(h.PosDeltas, -55)
	spoil(h.NegDeltas, -66)
}

func TestNothingHandedInIsChanged(t *testing.T) {
	a, b := wide(some()), wide(even())
	l, m := roomy(sp(7, 7), list(-2, 9)), roomy(sp(8, 8), list(4, 1, 0, 0, 0, 4))
	p, q := roomy(P{Place: 9, V: 9}, at(-1, 3.5, 0, 0, 4, 1)), roomy(P{Place: 9, V: 9}, at(5, 1, 6, 2.25))
	w := wideWhole(H{ZeroCount: 1, Count: 9, Pos: list(2, 3), PosDeltas: d(4, -4, 2), Neg: list(5, 0, 0, 1), NegDeltas: d(2)})
	wasA, wasB, wasW := whole(a), whole(b), wholeOfWhole(w)
	wasL, wasM, wasP, wasQ := room(l), room(m), room(p), room(q)
	for _, h := range []F{a, b, turned(func(h *F) { *h = a; h.Count = sign }), turned(func(h *F) { *h = a; h.PosCounts = h.PosCounts[:2] }), turned(func(h *F) { *h = b; h.Count = bits(1) })} {
		fhist.Check(h)
		fhist.Pairs(h, hist.Positive)
		fhist.Pairs(h, hist.Negative)
		fhist.Pairs(h, hist.Nought)
		fhist.Make(h, p, q)
		fhist.Make(h, q, p)
		fhist.Make(h, p[:1], nil)
		fhist.Make(h, nil, q[:0])
		fhist.Canon(h)
		fhist.Over(h, l, m)
		fhist.Over(h, m, l)
		fhist.Over(h, l[:0], m[:1])
		fhist.Equal(h, b)
		fhist.Equal(b, h)
		fhist.Back(h)
	}
	fhist.From(w)
	w.Count++
	fhist.From(w)
	w.Count--
	if !one(whole(a), wasA) || !one(whole(b), wasB) || !oneWhole(wholeOfWhole(w), wasW) {
		t.Errorf("%s, %s, %s", show(whole(a)), show(whole(b)), showWhole(wholeOfWhole(w)))
	}
	if !slices.Equal(room(l), wasL) || !slices.Equal(room(m), wasM) || !slices.Equal(room(p), wasP) || !slices.Equal(room(q), wasQ) {
		t.Errorf("%v, %v, %v, %v", room(l), room(m), room(p), room(q))
	}
}

// wantOwnLists: the lists of both sides, spans and numbers, share no room: each is spoilt by itself, and all others are then as they were.
func wantOwnLists[T comparable](t *testing.T, name string, pos, neg []S, x, y []T, v, w T) {
	t.Helper()
	wasNeg, wasY := room(neg), room(y)
	spoil(pos, sp(-5, -5))
	spoil(x, v)
	if !slices.Equal(room(neg), wasNeg) || !slices.Equal(room(y), wasY) {
		t.Errorf("%s: the sides share memory", name)
	}
	spoil(neg, sp(-6, -6))
	spoil(y, w)
	if !slices.Equal(room(pos), slices.Repeat(list(-5, -5), cap(pos))) || !slices.Equal(room(x), slices.Repeat([]T{v}, cap(x))) {
		t.Errorf("%s: the sides share memory", name)
	}
}

func TestWhatIsMadeIsNewMemory(t *testing.T) {
	same := roomy(sp(7, 7), list(-2, 9))
	twice := roomy(P{Place: 9, V: 9}, at(3, 5))
	calls := map[string]func(h F) F{
		"Canon": func(h F) F { c, _ := fhist.Canon(h); return c },
		"Make": func(h F) F {
			p, _ := fhist.Pairs(h, hist.Positive)
			n, _ := fhist.Pairs(h, hist.Negative)
			m, _ := fhist.Make(h, p, n)
			spoil(p, P{Place: -5, V: 5})
			spoil(n, P{Place: -5, V: 5})
			return m
		},
		"Make of one list twice": func(h F) F { m, _ := fhist.Make(h, twice, twice); return m },
		"Make of none":           func(h F) F { m, _ := fhist.Make(h, twice[:0], twice[:0]); return m },
		"Over its own":           func(h F) F { o, _ := fhist.Over(h, h.Pos, h.Neg); return o },
		"Over one list twice":    func(h F) F { o, _ := fhist.Over(h, same, same); return o },
		"Over none": func(h F) F {
			o, _ := fhist.Over(F{Count: bits(1)}, same[:0], h.Pos[:0])
			return o
		},
	}
	canonical := turned(func(h *F) { h.Pos, h.PosCounts = list(-1, 1, 4, 1), f(3.5, 1) })
	for name, call := range calls {
		for _, h := range []F{some(), canonical, flipped(some()), even(), {ZeroCount: bits(4), Count: bits(4)}} {
			in := wide(h)
			was, wasSame, wasTwice := whole(in), room(same), room(twice)
			first, second := call(in), call(in)
			want := whole(second)
			if first.Count == 0 || !one(first, second) {
				t.Errorf("%s: %s, %s", name, show(first), show(second))
			}
			wantOwnLists(t, name, first.Pos, first.Neg, first.PosCounts, first.NegCounts, 55, 66)
			if !one(whole(second), want) || !one(whole(in), was) || !slices.Equal(room(same), wasSame) || !slices.Equal(room(twice), wasTwice) {
				t.Errorf("%s: the answer of %s shares memory", name, show(h))
			}
			spoilHist(in)
			if !one(whole(second), want) {
				t.Errorf("%s: the answer is in what was handed in", name)
			}
		}
	}
}

func TestPairsAreNewMemory(t *testing.T) {
	h := wide(some())
	was := whole(h)
	for _, side := range []int{hist.Positive, hist.Negative} {
		first, _ := fhist.Pairs(h, side)
		second, _ := fhist.Pairs(h, side)
		want := slices.Clone(second)
		spoil(first, P{Place: -5, V: 5})
		if !slices.Equal(second, want) || !one(whole(h), was) {
			t.Errorf("Pairs: %v, %s", second, show(h))
		}
		in := wide(some())
		third, _ := fhist.Pairs(in, side)
		spoilHist(in)
		if !slices.Equal(third, want) {
			t.Errorf("Pairs: %v", third)
		}
	}
}

func TestFromIsNewMemory(t *testing.T) {
	for _, h := range []H{
		{},
		{ZeroCount: 1, Count: 9, Pos: list(2, 3), PosDeltas: d(4, -4, 2), Neg: list(5, 0, 0, 1), NegDeltas: d(2)},
		{Count: 4, Pos: list(2, 1), PosDeltas: d(2), Neg: list(2, 1), NegDeltas: d(2)},
	} {
		in := wideWhole(h)
		was := wholeOfWhole(in)
		first, _ := fhist.From(in)
		second, _ := fhist.From(in)
		want := whole(second)
		wantOwnLists(t, "From", first.Pos, first.Neg, first.PosCounts, first.NegCounts, 55, 66)
		if !one(whole(second), want) || !oneWhole(wholeOfWhole(in), was) {
			t.Errorf("From: the answer of %s shares memory", showWhole(h))
		}
		spoilWhole(in)
		if !one(whole(second), want) {
			t.Errorf("From: the answer is in what was handed in")
		}
	}
	// one list for both sides
	l, deltas := list(2, 1), d(2)
	x, _ := fhist.From(H{Count: 4, Pos: l, PosDeltas: deltas, Neg: l, NegDeltas: deltas})
	wantOwnLists(t, "From", x.Pos, x.Neg, x.PosCounts, x.NegCounts, 55, 66)
}

func TestBackIsNewMemory(t *testing.T) {
	for _, h := range []F{{}, even(), flipped(even()), {Count: bits(4), Pos: list(2, 1), PosCounts: f(2), Neg: list(2, 1), NegCounts: f(2)}} {
		in := wide(h)
		was := whole(in)
		first, _ := fhist.Back(in)
		second, e := fhist.Back(in)
		want := wholeOfWhole(second)
		wantOwnLists(t, "Back", first.Pos, first.Neg, first.PosDeltas, first.NegDeltas, -55, -66)
		if e != api.OK || !oneWhole(wholeOfWhole(second), want) || !one(whole(in), was) {
			t.Errorf("Back: the answer of %s shares memory", show(h))
		}
		spoilHist(in)
		if !oneWhole(wholeOfWhole(second), want) {
			t.Errorf("Back: the answer is in what was handed in")
		}
	}
	// one list for both sides
	l, counts := list(2, 1), f(2)
	x, _ := fhist.Back(F{Count: bits(4), Pos: l, PosCounts: counts, Neg: l, NegCounts: counts})
	wantOwnLists(t, "Back", x.Pos, x.Neg, x.PosDeltas, x.NegDeltas, -55, -66)
}
