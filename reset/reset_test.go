package reset_test

import (
	"fmt"
	"math"
	"math/big"
	"math/rand"
	"slices"
	"testing"

	"tidepole/api"
	"tidepole/fhist"
	"tidepole/hist"
	"tidepole/pairs"
	"tidepole/reset"
	"tidepole/span"
)

const (
	far      = api.MaxOffset
	most     = api.MaxBuckets
	infinite = 0x7ff0000000000000
	sign     = 1 << 63
	noNumber = 0x7ff8000000000001
	all      = math.MaxUint64
	top      = math.MaxInt64
	two53    = 1 << 53
)

// H: a histogram of whole counts, F: one of floats, S: a span, P: a pair, and V: a verdict, as short as the tables below want them.
type (
	H = hist.Hist
	F = fhist.Hist
	S = span.Span
	P = pairs.Pair[int64]
	V = reset.Verdict
)

// C: what a histogram of either kind is made of. Its sum is no number unless it is said, so that Count may be above all counts together.
type C struct {
	schema                 int
	zero, zeroCount, count uint64
	pos, neg               []P
}

// whole: as one of whole counts, and floats: as one of floats. What is made so must be right.
func (c C) whole() H {
	h, e := hist.Make(H{Schema: c.schema, Zero: c.zero, ZeroCount: c.zeroCount, Count: c.count, Sum: noNumber}, c.pos, c.neg)
	if e != api.OK {
		panic(fmt.Sprintf("%v isn't right: %d", c, e))
	}
	return h
}

func (c C) floats() F {
	h, e := fhist.Make(F{Schema: c.schema, Zero: c.zero, ZeroCount: fhist.Float(c.zeroCount), Count: fhist.Float(c.count), Sum: noNumber}, inFloats(c.pos), inFloats(c.neg))
	if e != api.OK {
		panic(fmt.Sprintf("%v isn't right in floats: %d", c, e))
	}
	return h
}

func inFloats(l []P) []pairs.Pair[uint64] {
	var out []pairs.Pair[uint64]
	for _, p := range l {
		out = append(out, pairs.Pair[uint64]{Place: p.Place, V: fhist.Float(uint64(p.V))})
	}
	return out
}

// bits: a float's, and f: those of some.
func bits(v float64) uint64 { return math.Float64bits(v) }

func f(l ...float64) []uint64 {
	var out []uint64
	for _, v := range l {
		out = append(out, bits(v))
	}
	return out
}

// d: differences.
func d(numbers ...int64) []int64 { return numbers }

// sp: a span, and list: some of them, each by its Offset and its Len.
func sp(offset, n int) S { return S{Offset: offset, Len: n} }

func list(numbers ...int) []S {
	var l []S
	for s := range slices.Chunk(numbers, 2) {
		l = append(l, sp(s[0], s[1]))
	}
	return l
}

// spans: n spans, all alike.
func spans(n int, s S) []S { return slices.Repeat([]S{s}, n) }

// at: pairs, each by its place and its count.
func at(numbers ...int64) []P {
	var l []P
	for s := range slices.Chunk(numbers, 2) {
		l = append(l, P{Place: int(s[0]), V: s[1]})
	}
	return l
}

// some: an ordinary one, with places below 0, at it and above, and an empty bucket on each side.
func some() C {
	return C{schema: 2, zero: 7, zeroCount: 5, count: 100, pos: at(-2, 4, 0, 6, 1, 0, 7, 3), neg: at(-1, 3, 0, 2, 4, 0, 6, 4)}
}

// turned: that one, but for something.
func turned(turns ...func(c *C)) C {
	c := some()
	for _, turn := range turns {
		turn(&c)
	}
	return c
}

// flipped: one side in the place of the other, and flippedFloats: of floats so.
func flipped(h H) H {
	h.Pos, h.Neg, h.PosDeltas, h.NegDeltas = h.Neg, h.Pos, h.NegDeltas, h.PosDeltas
	return h
}

func flippedFloats(h F) F {
	h.Pos, h.Neg, h.PosCounts, h.NegCounts = h.Neg, h.Pos, h.NegCounts, h.PosCounts
	return h
}

// flippedVerdict: what is told of them then, if one side alone has what is below.
func flippedVerdict(v V) V {
	switch v.Why {
	case reset.Pos:
		v.Why = reset.Neg
	case reset.Neg:
		v.Why = reset.Pos
	}
	return v
}

// text: a list, cut short for the eye, and show and showFloats: a histogram so.
func text[T any](l []T) string {
	if len(l) <= 12 {
		return fmt.Sprintf("%x", any(l))
	}
	return fmt.Sprintf("%x.. (%d)", any(l[:4]), len(l))
}

func show(h H) string {
	return fmt.Sprintf("{%d %x %d %d %x %s %s %s %s}", h.Schema, h.Zero, h.ZeroCount, h.Count, h.Sum, text(h.Pos), text(h.PosDeltas), text(h.Neg), text(h.NegDeltas))
}

func showFloats(h F) string {
	return fmt.Sprintf("{%d %x %x %x %x %s %s %s %s}", h.Schema, h.Zero, h.ZeroCount, h.Count, h.Sum, text(h.Pos), text(h.PosCounts), text(h.Neg), text(h.NegCounts))
}

// model: a histogram of either kind, by places, with numbers of any size; or its error.
type model struct {
	e                api.Errno
	schema           int
	zero             uint64
	zeroCount, count *big.Float
	pos, neg         map[int]*big.Float
}

// number: an unsigned one, signed: one with a sign, and float: that which has these bits, just as they are.
func number(n uint64) *big.Float { return new(big.Float).SetUint64(n) }

func signed(n int64) *big.Float { return new(big.Float).SetInt64(n) }

func float(v uint64) *big.Float { return new(big.Float).SetFloat64(math.Float64frombits(v)) }

// byPlace: what each place has.
func byPlace[T any](l []pairs.Pair[T], in func(v T) *big.Float) map[int]*big.Float {
	m := map[int]*big.Float{}
	for _, p := range l {
		m[p.Place] = in(p.V)
	}
	return m
}

func modelOf(h H) model {
	if e := hist.Check(h); e != api.OK {
		return model{e: e}
	}
	pos, _ := hist.Pairs(h, hist.Positive)
	neg, _ := hist.Pairs(h, hist.Negative)
	return model{schema: h.Schema, zero: h.Zero, zeroCount: number(h.ZeroCount), count: number(h.Count), pos: byPlace(pos, signed), neg: byPlace(neg, signed)}
}

func modelOfFloats(h F) model {
	if e := fhist.Check(h); e != api.OK {
		return model{e: e}
	}
	pos, _ := fhist.Pairs(h, hist.Positive)
	neg, _ := fhist.Pairs(h, hist.Negative)
	return model{schema: h.Schema, zero: h.Zero, zeroCount: float(h.ZeroCount), count: float(h.Count), pos: byPlace(pos, float), neg: byPlace(neg, float)}
}

// below: the places where b has less than a, rising.
func below(a, b map[int]*big.Float) []int {
	var l []int
	for _, m := range []map[int]*big.Float{a, b} {
		for place := range m {
			x, y := new(big.Float), new(big.Float)
			if v, ok := a[place]; ok {
				x = v
			}
			if v, ok := b[place]; ok {
				y = v
			}
			if y.Cmp(x) < 0 && !slices.Contains(l, place) {
				l = append(l, place)
			}
		}
	}
	slices.Sort(l)
	return l
}

// modelVerdict: line by line of the chapter's table.
func modelVerdict(a, b model) (V, api.Errno) {
	if a.e != api.OK {
		return V{}, a.e
	}
	if b.e != api.OK {
		return V{}, b.e
	}
	pos, neg := below(a.pos, b.pos), below(a.neg, b.neg)
	switch {
	case a.schema != b.schema:
		return V{Why: 1}, api.OK
	case a.zero != b.zero:
		return V{Why: 2}, api.OK
	case b.count.Cmp(a.count) < 0:
		return V{Why: 3}, api.OK
	case b.zeroCount.Cmp(a.zeroCount) < 0:
		return V{Why: 4}, api.OK
	case len(pos) > 0:
		return V{Why: 5, Place: pos[0]}, api.OK
	case len(neg) > 0:
		return V{Why: 6, Place: neg[0]}, api.OK
	}
	return V{}, api.OK
}

// modelSame: neither way.
func modelSame(a, b model) bool {
	x, e := modelVerdict(a, b)
	y, d := modelVerdict(b, a)
	return e == api.OK && d == api.OK && x.Why == 0 && y.Why == 0
}

// wantInts: just that, of whole counts, and the same of Same as of both verdicts.
func wantInts(t *testing.T, a, b H, want V, wantE api.Errno) {
	t.Helper()
	if v, e := reset.Ints(a, b); v != want || e != wantE {
		t.Errorf("Ints(%s, %s): %v, %d; want %v, %d", show(a), show(b), v, e, want, wantE)
	}
	if v, e := modelVerdict(modelOf(a), modelOf(b)); v != want || e != wantE {
		t.Errorf("the model tells %v, %d of %s, %s; want %v, %d", v, e, show(a), show(b), want, wantE)
	}
	same := modelSame(modelOf(a), modelOf(b))
	if reset.Same(a, b) != same || reset.Same(b, a) != same {
		t.Errorf("Same(%s, %s): %v, %v; want %v", show(a), show(b), reset.Same(a, b), reset.Same(b, a), same)
	}
}

// wantFloats: just that, of floats.
func wantFloats(t *testing.T, a, b F, want V, wantE api.Errno) {
	t.Helper()
	if v, e := reset.Floats(a, b); v != want || e != wantE {
		t.Errorf("Floats(%s, %s): %v, %d; want %v, %d", showFloats(a), showFloats(b), v, e, want, wantE)
	}
	if v, e := modelVerdict(modelOfFloats(a), modelOfFloats(b)); v != want || e != wantE {
		t.Errorf("the model tells %v, %d of %s, %s; want %v, %d", v, e, showFloats(a), showFloats(b), want, wantE)
	}
}

// want: a verdict, of both kinds.
func want(t *testing.T, a, b C, v V) {
	t.Helper()
	wantInts(t, a.whole(), b.whole(), v, api.OK)
	wantFloats(t, a.floats(), b.floats(), v, api.OK)
}

// wantOnSides: a verdict on the positive side's places, of both kinds, and the same with the sides flipped.
func wantOnSides(t *testing.T, a, b []P, v V) {
	t.Helper()
	x, y := C{count: all, pos: a}, C{count: all, pos: b}
	want(t, x, y, v)
	wantInts(t, flipped(x.whole()), flipped(y.whole()), flippedVerdict(v), api.OK)
	wantFloats(t, flippedFloats(x.floats()), flippedFloats(y.floats()), flippedVerdict(v), api.OK)
}

// none: no reset.
var none = V{}

// pos: one at a place of the positive side, and neg: of the negative.
func pos(place int) V { return V{Why: reset.Pos, Place: place} }

func neg(place int) V { return V{Why: reset.Neg, Place: place} }

// P11.1: the verdict

func TestReasonsByNumber(t *testing.T) {
	got := []int{reset.None, reset.Schema, reset.Zero, reset.Count, reset.ZeroCount, reset.Pos, reset.Neg}
	for i, why := range got {
		if why != i {
			t.Errorf("the reasons are %v", got)
		}
	}
}

func TestTheChaptersExample(t *testing.T) {
	wantInts(t, H{Count: 6, Pos: list(3, 2), PosDeltas: d(5, -4)}, H{Count: 9, Pos: list(3, 1), PosDeltas: d(9)}, V{Why: 5, Place: 4}, api.OK)
	wantFloats(t, F{Count: bits(6), Pos: list(3, 2), PosCounts: f(5, 1)}, F{Count: bits(9), Pos: list(3, 1), PosCounts: f(9)}, V{Why: 5, Place: 4}, api.OK)
	wantInts(t, H{Count: 6, Neg: list(3, 2), NegDeltas: d(5, -4)}, H{Count: 9, Neg: list(3, 1), NegDeltas: d(9)}, V{Why: 6, Place: 4}, api.OK)
	wantFloats(t, F{Count: bits(6), Neg: list(3, 2), NegCounts: f(5, 1)}, F{Count: bits(9), Neg: list(3, 1), NegCounts: f(9)}, V{Why: 6, Place: 4}, api.OK)
}

func TestWhatGrows(t *testing.T) {
	for _, turn := range []func(c *C){
		func(c *C) {},
		func(c *C) { c.count = 101 },
		func(c *C) { c.zeroCount = 6 },
		func(c *C) { c.pos = at(-2, 5, 0, 6, 1, 0, 7, 3) },
		func(c *C) { c.pos = at(-3, 1, -2, 4, 0, 6, 1, 0, 7, 3, 8, 1) },
		func(c *C) { c.neg = at(-1, 3, 0, 2, 4, 1, 6, 4) },
		func(c *C) {
			c.count, c.zeroCount, c.pos, c.neg = 200, 9, at(-2, 9, 0, 9, 1, 9, 7, 9), at(-1, 9, 0, 9, 4, 9, 6, 9)
		},
	} {
		want(t, some(), turned(turn), none)
	}
	want(t, C{}, C{}, none)
	want(t, C{}, C{count: 9, zeroCount: 1, pos: at(0, 3), neg: at(0, 4)}, none)
}

// line: of the chapter's table, as a turn of b, and what is told of it alone.
type line struct {
	want V
	turn func(c *C)
}

// lines: in their order.
func lines() []line {
	return []line{
		{V{Why: reset.Schema}, func(c *C) { c.schema = 3 }},
		{V{Why: reset.Zero}, func(c *C) { c.zero = 8 }},
		{V{Why: reset.Count}, func(c *C) { c.count = 99 }},
		{V{Why: reset.ZeroCount}, func(c *C) { c.zeroCount = 4 }},
		{pos(7), func(c *C) { c.pos = at(-2, 4, 0, 6, 1, 0, 7, 2) }},
		{neg(-1), func(c *C) { c.neg = at(-1, 2, 0, 2, 4, 0, 6, 4) }},
	}
}

func TestEachLineAheadOfTheLaterOnes(t *testing.T) {
	l := lines()
	for i, first := range l {
		want(t, some(), turned(first.turn), first.want)
		var turns []func(c *C)
		for _, later := range l[i+1:] {
			want(t, some(), turned(later.turn, first.turn), first.want)
			turns = append(turns, later.turn)
		}
		want(t, some(), turned(append(turns, first.turn)...), first.want)
	}
}

func TestLinesTheOtherWay(t *testing.T) {
	// what is above in b is no reset, and doesn't hide a later line
	grown := []func(c *C){
		func(c *C) { c.count = 101 },
		func(c *C) { c.zeroCount = 6 },
		func(c *C) { c.pos = at(-9, 1, -2, 5, 0, 7, 1, 1, 7, 4) },
		func(c *C) { c.neg = at(-9, 1, -1, 4, 0, 3, 4, 1, 6, 5) },
	}
	for i, later := range lines()[2:] {
		for j, turn := range grown {
			if i != j {
				want(t, some(), turned(turn, later.turn), later.want)
			}
		}
	}
	want(t, some(), turned(grown...), none)
	// b resets a though a resets b, too
	want(t, some(), turned(func(c *C) { c.schema = 1 }), V{Why: reset.Schema})
	want(t, some(), turned(func(c *C) { c.pos = at(-2, 3, 0, 7, 1, 0, 7, 3) }), pos(-2))
	want(t, turned(func(c *C) { c.pos = at(-2, 3, 0, 7, 1, 0, 7, 3) }), some(), pos(0))
}

func TestSchemas(t *testing.T) {
	for x := api.MinSchema; x <= api.MaxSchema; x++ {
		for y := api.MinSchema; y <= api.MaxSchema; y++ {
			v := none
			if x != y {
				v = V{Why: reset.Schema}
			}
			want(t, turned(func(c *C) { c.schema = x }), turned(func(c *C) { c.schema = y }), v)
		}
	}
}

func TestThresholds(t *testing.T) {
	l := []uint64{0, 1, 2, 7, bits(1), bits(1) + 1, bits(0.5), infinite - 1, infinite - 2}
	for i := range 62 {
		l = append(l, 1<<i)
	}
	for _, x := range l {
		want(t, turned(func(c *C) { c.zero = x }), turned(func(c *C) { c.zero = x }), none)
		for i := range 62 { // each bit that a threshold may have whatever the others are
			y := x ^ 1<<i
			if hist.Threshold(y) {
				want(t, turned(func(c *C) { c.zero = x }), turned(func(c *C) { c.zero = y }), V{Why: reset.Zero})
			}
		}
	}
	// the least above 0
	want(t, C{zero: 0}, C{zero: 1}, V{Why: reset.Zero})
	want(t, C{zero: 1}, C{zero: 0}, V{Why: reset.Zero})
}

// around: those of a number, the one below and the one above that there are.
func around(n uint64) []uint64 {
	l := []uint64{n}
	if n > 0 {
		l = append(l, n-1)
	}
	if n < all {
		l = append(l, n+1)
	}
	return l
}

func TestCountsThatLieNextToEachOther(t *testing.T) {
	for _, n := range []uint64{0, 1, 2, 100, two53, two53 + 1, top, sign, sign + 1, all - 1, all} {
		for _, x := range around(n) {
			for _, y := range around(n) {
				v, w := none, none
				if y < x {
					v, w = V{Why: reset.Count}, V{Why: reset.ZeroCount}
				}
				wantInts(t, H{Count: x, Sum: noNumber}, H{Count: y, Sum: noNumber}, v, api.OK)
				wantInts(t, H{ZeroCount: x, Count: all, Sum: noNumber}, H{ZeroCount: y, Count: all, Sum: noNumber}, w, api.OK)
				wantInts(t, H{ZeroCount: x, Count: x}, H{ZeroCount: y, Count: y}, v, api.OK)
			}
		}
	}
}

func TestFloatCountsThatLieNextToEachOther(t *testing.T) {
	for _, n := range []uint64{0, 1, 2, 0x000fffffffffffff, 0x0010000000000000, bits(0.1), bits(0.5), bits(1), bits(1.5), bits(2), bits(two53), bits(sign), bits(1 << 64), bits(1e300), infinite - 2} {
		for _, x := range around(n) {
			for _, y := range around(n) {
				count, zeroCount, low, high := none, none, none, none
				if y < x {
					count, zeroCount, low, high = V{Why: reset.Count}, V{Why: reset.ZeroCount}, pos(-5), neg(9)
				}
				wantFloats(t, F{Count: x}, F{Count: y}, count, api.OK)
				wantFloats(t, F{ZeroCount: x}, F{ZeroCount: y}, zeroCount, api.OK)
				wantFloats(t, F{Pos: list(-5, 1), PosCounts: []uint64{x}}, F{Pos: list(-5, 1), PosCounts: []uint64{y}}, low, api.OK)
				wantFloats(t, F{Neg: list(9, 1), NegCounts: []uint64{x}}, F{Neg: list(9, 1), NegCounts: []uint64{y}}, high, api.OK)
			}
		}
	}
}

func TestFloatsThatAreNotWhole(t *testing.T) {
	h := F{ZeroCount: bits(0.25), Count: bits(9.5), Sum: sign, Pos: list(-1, 2), PosCounts: f(0.5, 1.75), Neg: list(2, 1), NegCounts: f(1e-300)}
	for _, c := range []struct {
		turn func(h *F)
		want V
	}{
		{func(h *F) {}, none},
		{func(h *F) { h.Count = bits(9.25) }, V{Why: reset.Count}},
		{func(h *F) { h.Count = bits(9.75) }, none},
		{func(h *F) { h.ZeroCount = bits(0.125) }, V{Why: reset.ZeroCount}},
		{func(h *F) { h.ZeroCount = 0 }, V{Why: reset.ZeroCount}},
		{func(h *F) { h.PosCounts = f(0.25, 1.75) }, pos(-1)},
		{func(h *F) { h.PosCounts = f(0.5, 1.5) }, pos(0)},
		{func(h *F) { h.PosCounts = f(0.75, 2) }, none},
		{func(h *F) { h.Pos, h.PosCounts = list(-1, 1), f(7) }, pos(0)},
		{func(h *F) { h.NegCounts = f(1e-301) }, neg(2)},
		{func(h *F) { h.NegCounts = []uint64{1} }, neg(2)},
		{func(h *F) { h.Neg, h.NegCounts = nil, nil }, neg(2)},
	} {
		b := h
		c.turn(&b)
		wantFloats(t, h, b, c.want, api.OK)
	}
	// the least above 0, and 0, as a bucket and as none
	for _, b := range []F{{Pos: list(3, 1), PosCounts: []uint64{0}}, {}, {Pos: list(4, 1), PosCounts: []uint64{1}}} {
		wantFloats(t, F{Pos: list(3, 1), PosCounts: []uint64{1}}, b, pos(3), api.OK)
	}
}

func TestPlaces(t *testing.T) {
	for _, c := range []struct {
		a, b []P
		want V
	}{
		// a side without buckets on a, on b, on both
		{nil, nil, none},
		{nil, at(3, 5), none},
		{at(3, 5), nil, pos(3)},
		{at(3, 0), nil, none},
		{nil, at(3, 0), none},
		{at(3, 0), at(3, 0), none},
		// a place that b hasn't, empty and not: ahead of b's, between, behind
		{at(1, 0, 4, 2), at(4, 2), none},
		{at(1, 1, 4, 2), at(4, 2), pos(1)},
		{at(1, 2, 2, 0, 4, 2), at(1, 2, 4, 2), none},
		{at(1, 2, 2, 1, 4, 2), at(1, 2, 4, 2), pos(2)},
		{at(1, 2, 4, 0), at(1, 2), none},
		{at(1, 2, 4, 1), at(1, 2), pos(4)},
		// a place that a hasn't: ahead of a's, between, behind
		{at(4, 2), at(1, 1, 4, 2), none},
		{at(1, 2, 4, 2), at(1, 2, 2, 9, 3, 0, 4, 2), none},
		{at(1, 2), at(1, 2, 4, 1), none},
		{at(4, 2), at(1, 1, 4, 1), pos(4)},
		{at(1, 2, 4, 2), at(1, 2, 2, 9, 3, 0, 4, 1), pos(4)},
		{at(1, 2), at(-1, 8, 0, 9, 2, 9), pos(1)},
		{at(1, 1, 3, 1, 5, 1), at(2, 9, 4, 9, 6, 9), pos(1)},
		{at(1, 0, 3, 1, 5, 1), at(2, 9, 4, 9, 6, 9), pos(3)},
		{at(1, 0, 3, 0, 5, 1), at(2, 9, 4, 9, 6, 9), pos(5)},
		{at(1, 0, 3, 0, 5, 0), at(2, 9, 4, 9, 6, 9), none},
		// the first place, the last one, and one between: one below, the same, one above
		{at(1, 5, 2, 5, 3, 5), at(1, 4, 2, 5, 3, 5), pos(1)},
		{at(1, 5, 2, 5, 3, 5), at(1, 5, 2, 4, 3, 5), pos(2)},
		{at(1, 5, 2, 5, 3, 5), at(1, 5, 2, 5, 3, 4), pos(3)},
		{at(1, 5, 2, 5, 3, 5), at(1, 5, 2, 5, 3, 5), none},
		{at(1, 5, 2, 5, 3, 5), at(1, 6, 2, 5, 3, 5), none},
		{at(1, 5, 2, 5, 3, 5), at(1, 5, 2, 6, 3, 5), none},
		{at(1, 5, 2, 5, 3, 5), at(1, 5, 2, 5, 3, 6), none},
		// several below: the lowest
		{at(1, 5, 2, 5, 3, 5), at(1, 4, 2, 4, 3, 4), pos(1)},
		{at(1, 5, 2, 5, 3, 5), at(1, 9, 2, 4, 3, 0), pos(2)},
		{at(1, 5, 2, 5, 3, 5), at(1, 0, 2, 9, 3, 4), pos(1)},
		{at(1, 5, 2, 5, 3, 5), at(2, 4, 3, 4), pos(1)},
		{at(1, 5, 2, 5, 3, 5), at(1, 9, 9, 9), pos(2)},
		// below 0, and 0 itself
		{at(-3, 1, -2, 1, -1, 1, 0, 1), at(-3, 1, -2, 0, -1, 0, 0, 0), pos(-2)},
		{at(-3, 1, -2, 1, -1, 1, 0, 1), at(-3, 1, -2, 1, -1, 0, 0, 0), pos(-1)},
		{at(-3, 1, -2, 1, -1, 1, 0, 1), at(-3, 1, -2, 1, -1, 1, 0, 0), pos(0)},
		{at(-3, 1, -2, 1, -1, 1, 0, 1, 1, 1), at(-3, 1, -2, 1, -1, 1), pos(0)},
		{at(0, 1), nil, pos(0)},
		{at(0, 2), at(0, 1), pos(0)},
		{at(0, 2), at(-1, 9, 0, 1, 1, 9), pos(0)},
		// far out
		{at(-far, 1, far, 1), at(-far, 1), pos(far)},
		{at(-far, 1, far, 1), at(far, 1), pos(-far)},
		{at(-far, 1, far, 1), at(-far, 1, 0, 7, far, 1), none},
		// great numbers that one float still tells apart
		{at(3, two53), at(3, two53-1), pos(3)},
		{at(3, two53-1), at(3, two53), none},
		{at(3, 1<<62, 4, 1<<62), at(3, 1<<62, 4, 1<<61), pos(4)},
	} {
		wantOnSides(t, c.a, c.b, c.want)
	}
}

func TestGreatCountsOfPlaces(t *testing.T) {
	for _, n := range []int64{1, 2, two53, two53 + 1, top - 1, top} {
		a, b := C{count: all, pos: at(-7, n)}.whole(), C{count: all, pos: at(-7, n-1)}.whole()
		for _, c := range []struct {
			a, b H
			want V
		}{{a, b, pos(-7)}, {b, a, none}, {a, a, none}, {b, b, none}} {
			wantInts(t, c.a, c.b, c.want, api.OK)
			wantInts(t, flipped(c.a), flipped(c.b), flippedVerdict(c.want), api.OK)
		}
	}
}

func TestPositiveAheadOfNegative(t *testing.T) {
	a := C{count: 99, pos: at(3, 5, 8, 5), neg: at(-4, 5, 2, 5)}
	for _, c := range []struct {
		pos, neg []P
		want     V
	}{
		{at(3, 5, 8, 5), at(-4, 5, 2, 5), none},
		{at(3, 5, 8, 4), at(-4, 4, 2, 5), pos(8)},
		{at(3, 5, 8, 5), at(-4, 4, 2, 4), neg(-4)},
		{at(3, 5, 8, 5), at(-4, 5, 2, 4), neg(2)},
		{at(3, 5), nil, pos(8)},
		{at(3, 5, 8, 5), nil, neg(-4)},
		{nil, nil, pos(3)},
		// what is on the other side doesn't help
		{at(-4, 5, 2, 5), at(3, 5, 8, 5), pos(3)},
		{at(3, 9, 8, 9), at(3, 9, 8, 9), neg(-4)},
	} {
		want(t, a, C{count: 99, pos: c.pos, neg: c.neg}, c.want)
	}
}

func TestAsManyPlacesAsThereMayBe(t *testing.T) {
	a := H{Count: all, Sum: noNumber, Pos: list(0, most), PosDeltas: append(d(1), make([]int64, most-1)...), Neg: list(0, most), NegDeltas: append(d(1), make([]int64, most-1)...)}
	wantInts(t, a, a, none, api.OK)
	for _, place := range []int{0, 1, most / 2, most - 2, most - 1} {
		b := a
		b.PosDeltas = slices.Clone(a.PosDeltas)
		b.PosDeltas[place]--
		if place+1 < most {
			b.PosDeltas[place+1]++
		}
		wantInts(t, a, b, pos(place), api.OK)
		wantInts(t, b, a, none, api.OK)
		wantInts(t, flipped(a), flipped(b), neg(place), api.OK)
		x, _ := fhist.From(a)
		y, _ := fhist.From(b)
		wantFloats(t, x, y, pos(place), api.OK)
		wantFloats(t, y, x, none, api.OK)
		wantFloats(t, flippedFloats(x), flippedFloats(y), neg(place), api.OK)
	}
}

func TestPlaceOfOtherReasons(t *testing.T) {
	for _, l := range lines()[:4] {
		// with places that are below, too
		b := turned(l.turn, func(c *C) { c.pos, c.neg = at(7, 3), at(6, 4) })
		if v, e := reset.Ints(some().whole(), b.whole()); v != (V{Why: l.want.Why, Place: 0}) || e != api.OK {
			t.Errorf("Ints: %v, %d; want %v", v, e, l.want)
		}
		if v, e := reset.Floats(some().floats(), b.floats()); v != (V{Why: l.want.Why, Place: 0}) || e != api.OK {
			t.Errorf("Floats: %v, %d; want %v", v, e, l.want)
		}
	}
}

func TestSumPlaysNoPart(t *testing.T) {
	sums := []uint64{0, 1, sign, sign | 1, bits(1), bits(-1), bits(1e300), infinite, sign | infinite, noNumber, noNumber + 1, sign | noNumber, infinite + 1, all}
	exact := func(n int64, sum uint64) H {
		return H{Count: uint64(n), Sum: sum, Pos: list(3, 1), PosDeltas: d(n)}
	}
	for _, x := range sums {
		for _, y := range sums {
			wantInts(t, exact(5, x), exact(5, y), none, api.OK)
			wantInts(t, exact(5, x), exact(6, y), none, api.OK)
			wantInts(t, exact(5, x), exact(4, y), V{Why: reset.Count}, api.OK)
			wantFloats(t, F{Count: 1, Sum: x}, F{Count: 1, Sum: y}, none, api.OK)
			wantFloats(t, F{Count: 2, Sum: x}, F{Count: 1, Sum: y}, V{Why: reset.Count}, api.OK)
			// but in what is right, of whole counts alone
			h := H{Count: 5, Sum: x}
			v, e := none, api.OK
			if !hist.NaN(x) {
				e = api.ErrCount
			}
			wantInts(t, h, H{Count: 6, ZeroCount: 6, Sum: y}, v, e)
			wantInts(t, H{Count: 4, ZeroCount: 4, Sum: y}, h, map[bool]V{true: {Why: reset.ZeroCount}, false: v}[e == api.OK], e)
		}
	}
}

// P11.1: errors

// fault: a histogram of whole counts that isn't right, or one of floats, and what is told of it.
type fault[T any] struct {
	e api.Errno
	h T
}

func faults() []fault[H] {
	h := some().whole()
	in := func(e api.Errno, turn func(h *H)) fault[H] {
		x := h
		turn(&x)
		return fault[H]{e, x}
	}
	l := []fault[H]{
		in(api.ErrSchema, func(h *H) { h.Schema = 9 }),
		in(api.ErrSchema, func(h *H) { h.Schema = -5 }),
		in(api.ErrRange, func(h *H) { h.Zero = sign }),
		in(api.ErrRange, func(h *H) { h.Zero = infinite }),
		in(api.ErrCount, func(h *H) { h.Count = 26 }),
		in(api.ErrCount, func(h *H) { h.Count, h.Sum = 28, 0 }),
		in(api.ErrCount, func(h *H) { h.ZeroCount = 101 }),
	}
	for _, flip := range []func(h *H){func(h *H) {}, func(h *H) { *h = flipped(*h) }} {
		on := func(e api.Errno, turn func(h *H)) {
			l = append(l, in(e, func(h *H) { flip(h); turn(h); flip(h) }))
		}
		on(api.ErrSpan, func(h *H) { h.Pos = list(0, -1) })
		on(api.ErrMany, func(h *H) { h.Pos = spans(api.MaxSpans+1, S{}) })
		on(api.ErrLayout, func(h *H) { h.PosDeltas = h.PosDeltas[1:] })
		on(api.ErrLayout, func(h *H) { h.PosDeltas = nil })
		on(api.ErrOverflow, func(h *H) { h.PosDeltas = d(top, 1, 0, 0) })
		on(api.ErrCount, func(h *H) { h.PosDeltas = d(4, -5, 0, 9) })
		on(api.ErrCount, func(h *H) { h.PosDeltas = d(90, 0, 0, 0) })
	}
	return l
}

func floatFaults() []fault[F] {
	h := some().floats()
	in := func(e api.Errno, turn func(h *F)) fault[F] {
		x := h
		turn(&x)
		return fault[F]{e, x}
	}
	l := []fault[F]{
		in(api.ErrSchema, func(h *F) { h.Schema = 9 }),
		in(api.ErrSchema, func(h *F) { h.Schema = -5 }),
		in(api.ErrRange, func(h *F) { h.Zero = sign }),
		in(api.ErrRange, func(h *F) { h.Zero = infinite }),
	}
	for _, v := range []uint64{infinite, noNumber, sign, bits(-1), all} {
		l = append(l, in(api.ErrCount, func(h *F) { h.Count = v }), in(api.ErrCount, func(h *F) { h.ZeroCount = v }))
	}
	for _, flip := range []func(h *F){func(h *F) {}, func(h *F) { *h = flippedFloats(*h) }} {
		on := func(e api.Errno, turn func(h *F)) {
			l = append(l, in(e, func(h *F) { flip(h); turn(h); flip(h) }))
		}
		on(api.ErrSpan, func(h *F) { h.Pos = list(0, -1) })
		on(api.ErrMany, func(h *F) { h.Pos = spans(api.MaxSpans+1, S{}) })
		on(api.ErrLayout, func(h *F) { h.PosCounts = h.PosCounts[1:] })
		on(api.ErrLayout, func(h *F) { h.PosCounts = nil })
		on(api.ErrCount, func(h *F) { h.PosCounts = f(4, 6, 0, -3) })
		on(api.ErrCount, func(h *F) { h.PosCounts = []uint64{sign, 0, 0, 0} })
	}
	return l
}

func TestWhatIsNotRight(t *testing.T) {
	right := []H{{}, some().whole(), turned(func(c *C) { c.schema = 8 }).whole(), {Count: all, ZeroCount: all}}
	told := map[api.Errno]bool{}
	for _, x := range faults() {
		told[x.e] = true
		if e := hist.Check(x.h); e != x.e {
			t.Errorf("Check(%s): %d; want %d", show(x.h), e, x.e)
		}
		for _, r := range right {
			wantInts(t, x.h, r, none, x.e)
			wantInts(t, r, x.h, none, x.e)
		}
		for _, y := range faults() {
			wantInts(t, x.h, y.h, none, x.e)
		}
	}
	if len(told) != 7 {
		t.Errorf("the errors were %v", told)
	}
}

func TestFloatsThatAreNotRight(t *testing.T) {
	right := []F{{}, some().floats(), turned(func(c *C) { c.schema = 8 }).floats(), {Count: infinite - 1, ZeroCount: infinite - 1}}
	told := map[api.Errno]bool{}
	for _, x := range floatFaults() {
		told[x.e] = true
		if e := fhist.Check(x.h); e != x.e {
			t.Errorf("Check(%s): %d; want %d", showFloats(x.h), e, x.e)
		}
		for _, r := range right {
			wantFloats(t, x.h, r, none, x.e)
			wantFloats(t, r, x.h, none, x.e)
		}
		for _, y := range floatFaults() {
			wantFloats(t, x.h, y.h, none, x.e)
		}
	}
	if len(told) != 6 {
		t.Errorf("the errors were %v", told)
	}
}

// P11.2: Same

func TestSame(t *testing.T) {
	grown := turned(func(c *C) { c.count = 101 })
	fallen := turned(func(c *C) { c.neg = at(-1, 3, 0, 2, 4, 0, 6, 3) })
	moved := turned(func(c *C) { c.pos = at(-2, 3, 0, 7, 1, 0, 7, 3) })
	for i, c := range []struct {
		a, b H
		want bool
	}{
		{some().whole(), some().whole(), true},
		{H{}, H{}, true},
		{H{}, H{Pos: list(3, 2), PosDeltas: d(0, 0), Neg: list(1, 0)}, true},
		{H{ZeroCount: 4, Count: 4, Sum: bits(1)}, H{ZeroCount: 4, Count: 4, Sum: bits(2)}, true},
		{H{ZeroCount: 4, Count: 4, Sum: bits(1)}, H{ZeroCount: 4, Count: 4, Sum: noNumber}, true},
		{some().whole(), turned(func(c *C) { c.pos, c.neg = at(-2, 4, 0, 6, 7, 3), at(-1, 3, 0, 2, 6, 4, 9, 0) }).whole(), true},
		// one way
		{some().whole(), grown.whole(), false},
		{some().whole(), fallen.whole(), false},
		{some().whole(), turned(func(c *C) { c.zeroCount = 6 }).whole(), false},
		{some().whole(), turned(func(c *C) { c.pos = at(-2, 4, 0, 6, 1, 1, 7, 3) }).whole(), false},
		{some().whole(), turned(func(c *C) { c.neg = at(-1, 3, 0, 2, 4, 0, 6, 4, 7, 1) }).whole(), false},
		// both ways
		{some().whole(), moved.whole(), false},
		{some().whole(), turned(func(c *C) { c.schema = 1 }).whole(), false},
		{some().whole(), turned(func(c *C) { c.zero = 0 }).whole(), false},
		{grown.whole(), fallen.whole(), false},
	} {
		if reset.Same(c.a, c.b) != c.want || reset.Same(c.b, c.a) != c.want {
			t.Errorf("Same of %d: %v, %v", i, reset.Same(c.a, c.b), reset.Same(c.b, c.a))
		}
	}
}

func TestSameOfWhatIsNotRight(t *testing.T) {
	for _, x := range faults() {
		for _, r := range []H{{}, some().whole()} {
			if reset.Same(x.h, r) || reset.Same(r, x.h) {
				t.Errorf("Same(%s, %s)", show(x.h), show(r))
			}
		}
		for _, y := range faults() {
			if reset.Same(x.h, y.h) {
				t.Errorf("Same(%s, %s)", show(x.h), show(y.h))
			}
		}
	}
}

// P11.2: Name

func TestName(t *testing.T) {
	names := map[int]string{
		reset.None: "none", reset.Schema: "schema", reset.Zero: "threshold", reset.Count: "count",
		reset.ZeroCount: "zero count", reset.Pos: "positive", reset.Neg: "negative",
	}
	for why := -300; why <= 300; why++ {
		if got := reset.Name(why); got != names[why] {
			t.Errorf("Name(%d): %q; want %q", why, got, names[why])
		}
	}
	for _, why := range []int{math.MinInt, math.MinInt + 1, math.MaxInt, 1 << 32, 1<<32 + 5, -1 << 32} {
		if got := reset.Name(why); got != "" {
			t.Errorf("Name(%d): %q", why, got)
		}
	}
}

// P11.3: what follows from the table

func TestOfItself(t *testing.T) {
	for _, sum := range []uint64{noNumber, all, infinite + 1, sign | noNumber} {
		for _, c := range []C{{}, some(), {count: all, zeroCount: all}, {count: all, pos: at(-far, top, far, top)}, {count: 9, neg: at(0, 0, 3, 9)}} {
			h, x := c.whole(), c.floats()
			h.Sum, x.Sum = sum, sum
			wantInts(t, h, h, none, api.OK)
			wantFloats(t, x, x, none, api.OK)
			if !reset.Same(h, h) {
				t.Errorf("Same(%s) of itself", show(h))
			}
		}
	}
	exact := H{Schema: -4, ZeroCount: 1, Count: 9, Sum: bits(2.5), Pos: list(3, 2), PosDeltas: d(5, -4), Neg: list(0, 2), NegDeltas: d(0, 2)}
	wantInts(t, exact, exact, none, api.OK)
}

// othersOf: the same counts, with empty buckets more or fewer, and spans otherwise cut.
func othersOf(h H) []H {
	l := []H{h}
	add := func(turn func(h *H)) {
		x := h
		turn(&x)
		if e := hist.Check(x); e != api.OK {
			panic(fmt.Sprintf("%s isn't right: %d", show(x), e))
		}
		l = append(l, x)
	}
	for _, flip := range []func(h *H){func(h *H) {}, func(h *H) { *h = flipped(*h) }} {
		on := func(turn func(h *H)) { add(func(h *H) { flip(h); turn(h); flip(h) }) }
		// each place in a span of its own, one without places ahead of it
		on(func(h *H) { h.Pos = singly(h.Pos) })
		on(func(h *H) { h.Pos = append(slices.Clone(h.Pos), S{}, sp(9, 0)) })
		// an empty bucket far ahead, between, and far behind
		on(func(h *H) { *h = over(*h, []int{-far}) })
		on(func(h *H) { *h = over(*h, []int{-1, 2, 3}) })
		on(func(h *H) { *h = over(*h, []int{far}) })
		on(func(h *H) { *h = over(*h, []int{-999, 4, 999}); h.Pos = singly(h.Pos) })
	}
	canon, e := hist.Canon(h)
	if e != api.OK {
		panic("no Canon")
	}
	return append(l, canon)
}

// singly: the same places, each in a span of its own.
func singly(l []S) []S {
	var out []S
	end := 0 // that of the one ahead; the first one's Offset is its place
	for _, place := range span.All(l) {
		out = append(out, sp(place-end, 0), sp(0, 1))
		end = place + 1
	}
	return out
}

// over: with more places on the positive side.
func over(h H, places []int) H {
	more, _ := span.From(places)
	l, _ := span.Union(h.Pos, more)
	x, e := hist.Over(h, l, h.Neg)
	if e != api.OK {
		panic(fmt.Sprintf("Over: %d", e))
	}
	return x
}

// fromWhole: with floats.
func fromWhole(h H) F {
	x, e := fhist.From(h)
	if e != api.OK {
		panic(fmt.Sprintf("From: %d", e))
	}
	return x
}

func TestEmptyBucketsAndCutsPlayNoPart(t *testing.T) {
	for _, c := range []struct {
		b    C
		want V
	}{
		{some(), none},
		{turned(lines()[0].turn), V{Why: reset.Schema}},
		{turned(lines()[1].turn), V{Why: reset.Zero}},
		{turned(lines()[2].turn), V{Why: reset.Count}},
		{turned(lines()[3].turn), V{Why: reset.ZeroCount}},
		{turned(lines()[4].turn), pos(7)},
		{turned(lines()[5].turn), neg(-1)},
		{turned(func(c *C) { c.pos, c.neg = at(-2, 4, 7, 3), at(-1, 3, 0, 2) }), pos(0)},
		{turned(func(c *C) { c.neg = at(-1, 3, 0, 2) }), neg(6)},
		{turned(func(c *C) { c.pos = at(-2, 9, -1, 9, 0, 9, 1, 9, 2, 9, 7, 9) }), none},
	} {
		for _, a := range othersOf(some().whole()) {
			for _, b := range othersOf(c.b.whole()) {
				wantInts(t, a, b, c.want, api.OK)
				wantFloats(t, fromWhole(a), fromWhole(b), c.want, api.OK)
				if reset.Same(a, b) != (c.b.count == 100 && hist.Equal(a, b)) {
					t.Errorf("Same(%s, %s): %v", show(a), show(b), reset.Same(a, b))
				}
			}
		}
	}
}

func TestThreeInARow(t *testing.T) {
	a := C{count: 50, zeroCount: 1, pos: at(-1, 2, 0, 0, 3, 4), neg: at(2, 2)}
	b := C{count: 50, zeroCount: 2, pos: at(-1, 2, 3, 5, 4, 1), neg: at(1, 1, 2, 2)}
	c := C{count: 51, zeroCount: 2, pos: at(-2, 1, -1, 3, 3, 5, 4, 1), neg: at(1, 1, 2, 2, 9, 9)}
	for _, x := range [][2]C{{a, b}, {b, c}, {a, c}} {
		want(t, x[0], x[1], none)
	}
	// but a third that resets the second may go on from the first
	want(t, b, a, V{Why: reset.ZeroCount})
	want(t, a, a, none)
}

// Whole counts, and the floats of them

func TestWholeCountsAndTheirFloats(t *testing.T) {
	// below 2^53 both tell the same; beyond a fall may be too small for floats
	for _, c := range []struct {
		x, y   uint64
		ints   bool
		floats bool
	}{
		{1, 0, true, true},
		{two53 - 1, two53 - 2, true, true},
		{two53, two53 - 1, true, true},
		{two53 + 1, two53, true, false},
		{two53 + 2, two53 + 1, true, true},
		{two53 + 2, two53, true, true},
		{two53 + 4, two53 + 3, true, false},
		{1 << 60, 1<<60 - 1, true, false},
		{1 << 60, 1<<60 - 64, true, false},
		{1 << 60, 1<<60 - 65, true, true},
		{top, top - 1, true, false},
	} {
		for _, turn := range []struct {
			of   func(n uint64) C
			want V
		}{
			{func(n uint64) C { return C{count: n} }, V{Why: reset.Count}},
			{func(n uint64) C { return C{count: all, zeroCount: n} }, V{Why: reset.ZeroCount}},
			{func(n uint64) C { return C{count: all, pos: at(3, int64(n))} }, pos(3)},
			{func(n uint64) C { return C{count: all, neg: at(-3, int64(n))} }, neg(-3)},
		} {
			a, b := turn.of(c.x).whole(), turn.of(c.y).whole()
			wantInts(t, a, b, map[bool]V{true: turn.want}[c.ints], api.OK)
			wantFloats(t, fromWhole(a), fromWhole(b), map[bool]V{true: turn.want}[c.floats], api.OK)
			wantInts(t, b, a, none, api.OK)
			wantFloats(t, fromWhole(b), fromWhole(a), none, api.OK)
		}
	}
	// Count alone goes beyond 2^63
	wantInts(t, C{count: all}.whole(), C{count: all - 1}.whole(), V{Why: reset.Count}, api.OK)
	wantFloats(t, C{count: all}.floats(), C{count: all - 1}.floats(), none, api.OK)
	wantFloats(t, C{count: all}.floats(), C{count: all - 2048}.floats(), V{Why: reset.Count}, api.OK)
}

// Against the model

// anyPairs: some places from -4 to 4 with few counts.
func anyPairs(random *rand.Rand) []P {
	var l []P
	for place := -4; place <= 4; place++ {
		if random.Intn(3) > 0 {
			l = append(l, P{Place: place, V: int64(random.Intn(3))})
		}
	}
	return l
}

// anyOf: a histogram, of few numbers.
func anyOf(random *rand.Rand) C {
	return C{schema: random.Intn(8) / 7, zero: uint64(random.Intn(8) / 7), zeroCount: uint64(random.Intn(3)), count: uint64(50 + random.Intn(3)), pos: anyPairs(random), neg: anyPairs(random)}
}

// grown: what goes on from one, or nearly: sometimes something is less.
func grown(random *rand.Rand, c C) C {
	more := func() int64 {
		if random.Intn(60) == 0 {
			return -1
		}
		return int64(random.Intn(3) / 2)
	}
	side := func(l []P) []P {
		var out []P
		for _, p := range pairs.Merge(l, anyPairs(random), func(x, y int64) int64 { return x }) {
			p.V = max(0, p.V+more())
			if p.V > 0 || random.Intn(2) == 0 {
				out = append(out, p)
			}
		}
		return out
	}
	c.count += uint64(max(0, int64(random.Intn(9))+3*more()))
	c.zeroCount = uint64(max(0, int64(c.zeroCount)+more()))
	c.pos, c.neg = side(c.pos), side(c.neg)
	return c
}

// recut: a list of spans, otherwise cut.
func recut(random *rand.Rand, l []S) []S {
	if random.Intn(2) == 0 {
		return l
	}
	return singly(l)
}

// cut: its spans otherwise, on either side.
func cut(random *rand.Rand, h H) H {
	h.Pos, h.Neg = recut(random, h.Pos), recut(random, h.Neg)
	return h
}

func TestAgainstTheModel(t *testing.T) {
	random := rand.New(rand.NewSource(1))
	seen := map[int]int{}
	for range 20000 {
		a := anyOf(random)
		b := anyOf(random)
		if random.Intn(3) > 0 {
			b = grown(random, a)
		}
		x, y := cut(random, a.whole()), cut(random, b.whole())
		v, e := modelVerdict(modelOf(x), modelOf(y))
		wantInts(t, x, y, v, e)
		wantFloats(t, fromWhole(x), fromWhole(y), v, e)
		seen[v.Why]++
	}
	for why := range 7 {
		if seen[why] < 200 {
			t.Errorf("%d came %d times", why, seen[why])
		}
	}
}

// anyFloat: a count, often one that lies next to another one.
func anyFloat(random *rand.Rand) uint64 {
	switch random.Intn(3) {
	case 0:
		return uint64(random.Intn(3))
	case 1:
		return bits(1) + uint64(random.Intn(3)) - 1
	}
	return bits(random.Float64() * 9)
}

func anyFloats(random *rand.Rand) F {
	h := F{ZeroCount: bits(1) + uint64(random.Intn(3)), Count: bits(5) + uint64(random.Intn(3)), Sum: random.Uint64()}
	for _, l := range []*[]uint64{&h.PosCounts, &h.NegCounts} {
		for range random.Intn(3) {
			*l = append(*l, anyFloat(random))
		}
	}
	h.Pos, h.Neg = list(random.Intn(2), len(h.PosCounts)), list(random.Intn(2), len(h.NegCounts))
	if random.Intn(20) == 0 {
		h.Schema = 1
	}
	if random.Intn(20) == 0 {
		h.Zero = 1
	}
	return h
}

func TestFloatsAgainstTheModel(t *testing.T) {
	random := rand.New(rand.NewSource(2))
	seen := map[int]int{}
	for range 50000 {
		a, b := anyFloats(random), anyFloats(random)
		v, e := modelVerdict(modelOfFloats(a), modelOfFloats(b))
		wantFloats(t, a, b, v, e)
		seen[v.Why]++
	}
	for why := range 7 {
		if seen[why] < 500 {
			t.Errorf("%d came %d times", why, seen[why])
		}
	}
}

func TestThreeInARowAgainstTheTable(t *testing.T) {
	random := rand.New(rand.NewSource(3))
	seen := 0
	for range 20000 {
		a := anyOf(random)
		b := grown(random, a)
		c := grown(random, b)
		x, y, z := cut(random, a.whole()), cut(random, b.whole()), cut(random, c.whole())
		v, _ := reset.Ints(x, y)
		w, _ := reset.Ints(y, z)
		if v.Why != reset.None || w.Why != reset.None {
			continue
		}
		seen++
		wantInts(t, x, z, none, api.OK)
		wantFloats(t, fromWhole(x), fromWhole(z), none, api.OK)
	}
	if seen < 2000 {
		t.Errorf("%d rows of three", seen)
	}
}

// Memory

// roomy: a list with room behind it that isn't bare.
func roomy[T any](spare T, l []T) []T {
	return append(slices.Clone(l), spare, spare, spare)[:len(l)]
}

// room: all of a list's memory.
func room[T any](l []T) []T { return slices.Clone(l[:cap(l)]) }

func wide(h H) H {
	h.Pos, h.Neg, h.PosDeltas, h.NegDeltas = roomy(sp(77, 77), h.Pos), roomy(sp(77, 77), h.Neg), roomy(77, h.PosDeltas), roomy(77, h.NegDeltas)
	return h
}

func wideFloats(h F) F {
	h.Pos, h.Neg, h.PosCounts, h.NegCounts = roomy(sp(77, 77), h.Pos), roomy(sp(77, 77), h.Neg), roomy(77, h.PosCounts), roomy(77, h.NegCounts)
	return h
}

// untouched: a histogram of whole counts with all its memory, and floatsUntouched: of floats.
func untouched(h H) func() bool {
	was := h
	was.Pos, was.Neg, was.PosDeltas, was.NegDeltas = room(h.Pos), room(h.Neg), room(h.PosDeltas), room(h.NegDeltas)
	return func() bool {
		return slices.Equal(was.Pos, room(h.Pos)) && slices.Equal(was.Neg, room(h.Neg)) && slices.Equal(was.PosDeltas, room(h.PosDeltas)) && slices.Equal(was.NegDeltas, room(h.NegDeltas))
	}
}

func floatsUntouched(h F) func() bool {
	was := h
	was.Pos, was.Neg, was.PosCounts, was.NegCounts = room(h.Pos), room(h.Neg), room(h.PosCounts), room(h.NegCounts)
	return func() bool {
		return slices.Equal(was.Pos, room(h.Pos)) && slices.Equal(was.Neg, room(h.Neg)) && slices.Equal(was.PosCounts, room(h.PosCounts)) && slices.Equal(was.NegCounts, room(h.NegCounts))
	}
}

func TestNothingHandedInIsChanged(t *testing.T) {
	l := []H{{}, some().whole(), flipped(some().whole())}
	for _, x := range lines() {
		l = append(l, turned(x.turn).whole())
	}
	for _, x := range faults() {
		l = append(l, x.h)
	}
	for _, x := range l {
		for _, y := range l {
			a, b := wide(x), wide(y)
			aWas, bWas := untouched(a), untouched(b)
			reset.Ints(a, b)
			reset.Same(a, b)
			if !aWas() || !bWas() {
				t.Errorf("%s or %s changed", show(x), show(y))
			}
		}
	}
}

func TestNoFloatsHandedInAreChanged(t *testing.T) {
	l := []F{{}, some().floats(), flippedFloats(some().floats())}
	for _, x := range lines() {
		l = append(l, turned(x.turn).floats())
	}
	for _, x := range floatFaults() {
		l = append(l, x.h)
	}
	for _, x := range l {
		for _, y := range l {
			a, b := wideFloats(x), wideFloats(y)
			aWas, bWas := floatsUntouched(a), floatsUntouched(b)
			reset.Floats(a, b)
			if !aWas() || !bWas() {
				t.Errorf("%s or %s changed", showFloats(x), showFloats(y))
			}
		}
	}
}

func TestNothingIsKept(t *testing.T) {
	// the same lists with other counts are other histograms
	a, b := some().whole(), some().whole()
	wantInts(t, a, b, none, api.OK)
	b.PosDeltas[0]--
	b.PosDeltas[1]++
	wantInts(t, a, b, pos(-2), api.OK)
	b.PosDeltas[0]++
	b.PosDeltas[1]--
	wantInts(t, a, b, none, api.OK)
	x, y := some().floats(), some().floats()
	wantFloats(t, x, y, none, api.OK)
	y.NegCounts[1] = 1
	wantFloats(t, x, y, neg(0), api.OK)
	y.NegCounts[1] = x.NegCounts[1]
	wantFloats(t, x, y, none, api.OK)
}

func TestNilAndEmptyAreOne(t *testing.T) {
	bare, empty := H{}, H{Pos: []S{}, Neg: []S{}, PosDeltas: []int64{}, NegDeltas: []int64{}}
	floats, none64 := F{}, F{Pos: []S{}, Neg: []S{}, PosCounts: []uint64{}, NegCounts: []uint64{}}
	for _, x := range []H{bare, empty} {
		for _, y := range []H{bare, empty} {
			wantInts(t, x, y, none, api.OK)
		}
		wantInts(t, C{count: 9, pos: at(2, 3)}.whole(), H{Count: 9, ZeroCount: 9, Pos: x.Pos, PosDeltas: x.PosDeltas}, pos(2), api.OK)
	}
	for _, x := range []F{floats, none64} {
		for _, y := range []F{floats, none64} {
			wantFloats(t, x, y, none, api.OK)
		}
	}
}
