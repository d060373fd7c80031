package pairs_test

import (
	"cmp"
	"fmt"
	"maps"
	"math"
	"math/big"
	"math/rand"
	"slices"
	"strconv"
	"strings"
	"testing"
	"time"

	"tidepole/api"
	"tidepole/pairs"
	"tidepole/span"
)

const (
	far    = api.MaxOffset
	top    = math.MaxInt64
	bottom = math.MinInt64
)

// S: a span, P and Q: pairs of numbers and of texts, as short as the tables below want them.
type S = span.Span

type P = pairs.Pair[int]

type Q = pairs.Pair[string]

// thing: a struct as a value.
type thing struct {
	name string
	n    [2]int
}

// sp: a span, and list: some of them, each by its Offset and its Len.
func sp(offset, n int) S { return S{Offset: offset, Len: n} }

func list(numbers ...int) []S {
	var l []S
	for s := range slices.Chunk(numbers, 2) {
		l = append(l, sp(s[0], s[1]))
	}
	return l
}

// text: a list, cut short for the eye.
func text[T any](l []T) string {
	if len(l) <= 12 {
		return fmt.Sprint(l)
	}
	return fmt.Sprintf("%v.. (%d)", l[:4], len(l))
}

// numbers: n values, all different, and none of them 0.
func numbers(n int) []int {
	var l []int
	for i := range n {
		l = append(l, 1000+i)
	}
	return l
}

// at: pairs of places and numbers, all different.
func at(places ...int) []P {
	var l []P
	for i, p := range places {
		l = append(l, P{p, 1000 + i})
	}
	return l
}

// row: n places, each so far behind the one ahead.
func row(first, n, step int) []int {
	var places []int
	for i := range n {
		places = append(places, first+i*step)
	}
	return places
}

// spans: n spans, all alike.
func spans(n int, s S) []S { return slices.Repeat([]S{s}, n) }

// with: a list with another thing at a number.
func with[T any](l []T, at int, v T) []T {
	l = slices.Clone(l)
	l[at] = v
	return l
}

// wantZip: a list and values have these pairs.
func wantZip[T comparable](t *testing.T, l []S, values []T, want []pairs.Pair[T]) {
	t.Helper()
	if got, e := pairs.Zip(l, values); e != api.OK || !slices.Equal(got, want) {
		t.Errorf("Zip(%s, %s): %s, %d; want %s", text(l), text(values), text(got), e, text(want))
	}
}

// wantZipRefused: they have an error, and nothing else.
func wantZipRefused[T any](t *testing.T, l []S, values []T, want api.Errno) {
	t.Helper()
	if got, e := pairs.Zip(l, values); e != want || len(got) != 0 {
		t.Errorf("Zip(%s, %s): %s, %d; want %d", text(l), text(values), text(got), e, want)
	}
}

// wantUnzip: pairs have these spans and values.
func wantUnzip[T comparable](t *testing.T, l []pairs.Pair[T], want []S, values []T) {
	t.Helper()
	if got, v, e := pairs.Unzip(l); e != api.OK || !slices.Equal(got, want) || !slices.Equal(v, values) {
		t.Errorf("Unzip(%s): %s, %s, %d; want %s, %s", text(l), text(got), text(v), e, text(want), text(values))
	}
}

// wantUnzipRefused: they have an error, and nothing else.
func wantUnzipRefused[T any](t *testing.T, l []pairs.Pair[T], want api.Errno) {
	t.Helper()
	if got, v, e := pairs.Unzip(l); e != want || len(got) != 0 || len(v) != 0 {
		t.Errorf("Unzip(%s): %s, %s, %d; want %d", text(l), text(got), text(v), e, want)
	}
}

// P7.1: Zip

func TestZip(t *testing.T) {
	wantZip(t, list(3, 2, 1, 1), []string{"a", "", "c"}, []Q{{3, "a"}, {4, ""}, {6, "c"}})
	wantZip(t, list(-1, 2, 2, 1), []int{7, 0, -7}, []P{{-1, 7}, {0, 0}, {3, -7}})
	// one span, of one place and of some
	wantZip(t, list(0, 1), []int{9}, []P{{0, 9}})
	wantZip(t, list(-2, 4), []int{9, 8, 7, 6}, []P{{-2, 9}, {-1, 8}, {0, 7}, {1, 6}})
	// spans without places, ahead of others, between them, behind them
	wantZip(t, list(5, 0, 2, 1, 1, 0, 0, 0, 1, 2, 3, 0), []int{1, 2, 3}, []P{{7, 1}, {10, 2}, {11, 3}})
	// spans that touch
	wantZip(t, list(-3, 2, 0, 1, 0, 0, 0, 1), []int{4, 3, 2, 1}, []P{{-3, 4}, {-2, 3}, {-1, 2}, {0, 1}})
	// at the far ends
	wantZip(t, list(-far, 1, 2*far-1, 1), []int{1, 2}, []P{{-far, 1}, {far, 2}})
}

func TestZipOfNone(t *testing.T) {
	for _, l := range [][]S{nil, {}, list(0, 0), list(9, 0, 1, 0), list(far, 0), spans(api.MaxSpans, S{})} {
		wantZip[int](t, l, nil, nil)
		wantZip(t, l, []int{}, nil)
		wantZipRefused(t, l, []int{0}, api.ErrForm)
	}
}

func TestZipOfSeveralTypes(t *testing.T) {
	l := list(3, 1, 1, 1)
	wantZip(t, l, []int64{bottom, top}, []pairs.Pair[int64]{{3, bottom}, {5, top}})
	wantZip(t, l, []uint64{math.MaxUint64, 0}, []pairs.Pair[uint64]{{3, math.MaxUint64}, {5, 0}})
	wantZip(t, l, []float64{math.Inf(-1), 0.5}, []pairs.Pair[float64]{{3, math.Inf(-1)}, {5, 0.5}})
	wantZip(t, l, []bool{true, false}, []pairs.Pair[bool]{{3, true}, {5, false}})
	wantZip(t, l, []thing{{"a", [2]int{1, 2}}, {}}, []pairs.Pair[thing]{{3, thing{"a", [2]int{1, 2}}}, {5, thing{}}})
	wantZip(t, l, []struct{}{{}, {}}, []pairs.Pair[struct{}]{{3, struct{}{}}, {5, struct{}{}}})
	wantZip(t, l, []any{"a", nil}, []pairs.Pair[any]{{3, "a"}, {5, nil}})
	one, two := 1, 1
	wantZip(t, l, []*int{&one, &two}, []pairs.Pair[*int]{{3, &one}, {5, &two}})
	// What can't be held against each other has places, too.
	got, e := pairs.Zip(l, [][]int{{1, 2}, nil})
	if e != api.OK || len(got) != 2 || !slices.Equal(got[0].V, []int{1, 2}) || got[1].Place != 5 || got[1].V != nil {
		t.Errorf("Zip: %v, %d", got, e)
	}
	back, values, e := pairs.Unzip(got)
	if e != api.OK || !slices.Equal(back, l) || len(values) != 2 || !slices.Equal(values[0], []int{1, 2}) || values[1] != nil {
		t.Errorf("Unzip: %v, %v, %d", back, values, e)
	}
	if v, ok := pairs.Find(got, 3); !ok || !slices.Equal(v, []int{1, 2}) {
		t.Errorf("Find: %v, %v", v, ok)
	}
	if v, ok := pairs.Find(got, 4); ok || v != nil {
		t.Errorf("Find: %v, %v", v, ok)
	}
	m := pairs.Merge(got, got[:1], func(x, y []int) []int { return slices.Concat(x, y) })
	if len(m) != 2 || !slices.Equal(m[0].V, []int{1, 2, 1, 2}) || m[1].V != nil {
		t.Errorf("Merge: %v", m)
	}
}

func TestZipOfWrongLists(t *testing.T) {
	// However many values there are: as many as the Lens say, fewer, more.
	for _, l := range [][]S{
		list(0, -1), list(3, 2, -1, 1), list(3, 2, 1, -1), list(3, 2, 1, 1, 2*far+1, 0),
		list(far+1, 1), list(far+1, 0), list(-far-1, 2), list(far, 2), list(far-1, 1, 0, 2),
		list(math.MinInt, 3), list(math.MaxInt, 3), list(0, math.MinInt), list(0, math.MaxInt), list(0, 1, 0, math.MaxInt, 0, 1),
		list(0, api.MaxBuckets+1), list(0, api.MaxBuckets, 0, 1),
	} {
		for _, n := range []int{0, 1, 2, 3, 4, api.MaxBuckets, api.MaxBuckets + 1} {
			wantZipRefused(t, l, numbers(n), api.ErrSpan)
		}
	}
}

func TestZipOfManySpans(t *testing.T) {
	for _, s := range list(0, 0, 1, 1, 0, 1, -1, -1) {
		many := spans(api.MaxSpans+1, s)
		for _, n := range []int{0, 1, api.MaxSpans, api.MaxSpans + 1, api.MaxSpans + 2} {
			wantZipRefused(t, many, numbers(n), api.ErrMany)
		}
	}
	wantZip(t, spans(api.MaxSpans, sp(1, 1)), numbers(api.MaxSpans), at(row(1, api.MaxSpans, 2)...))
	wantZip(t, spans(api.MaxSpans, sp(0, 1)), numbers(api.MaxSpans), at(row(0, api.MaxSpans, 1)...))
	wantZip(t, spans(api.MaxSpans, sp(0, 4)), numbers(api.MaxBuckets), at(row(0, api.MaxBuckets, 1)...))
}

func TestZipOfTooFewAndTooMany(t *testing.T) {
	for _, c := range []struct {
		l []S
		n int
	}{
		{list(3, 2, 1, 1), 3}, {list(0, 1), 1}, {list(2, 0, 2, 1, 0, 1), 2},
		{list(0, api.MaxBuckets), api.MaxBuckets}, {list(far-api.MaxBuckets+1, api.MaxBuckets), api.MaxBuckets},
		{spans(api.MaxSpans, sp(1, 1)), api.MaxSpans},
	} {
		if got, e := pairs.Zip(c.l, numbers(c.n)); e != api.OK || len(got) != c.n {
			t.Errorf("Zip(%s): %d pairs, %d", text(c.l), len(got), e)
		}
		for _, n := range []int{0, c.n - 1, c.n + 1, 2*c.n + 1} {
			wantZipRefused(t, c.l, numbers(n), api.ErrForm)
		}
	}
}

// P7.1: Unzip

func TestUnzip(t *testing.T) {
	wantUnzip(t, []Q{{3, "a"}, {4, ""}, {6, "c"}}, list(3, 2, 1, 1), []string{"a", "", "c"})
	wantUnzip(t, []P{{-1, 7}, {0, 0}, {3, -7}}, list(-1, 2, 2, 1), []int{7, 0, -7})
	wantUnzip(t, []P{{0, 0}}, list(0, 1), []int{0})
	wantUnzip(t, []pairs.Pair[thing]{{-5, thing{name: "a"}}, {9, thing{}}}, list(-5, 1, 13, 1), []thing{{name: "a"}, {}})
	// at the far ends
	wantUnzip(t, []P{{-far, 1}, {far, 2}}, list(-far, 1, 2*far-1, 1), []int{1, 2})
	wantUnzip(t, []P{{-far, 1}, {-far + 1, 2}}, list(-far, 2), []int{1, 2})
	wantUnzip(t, []P{{far - 1, 1}, {far, 2}}, list(far-1, 2), []int{1, 2})
	// none
	wantUnzip[int](t, nil, nil, nil)
	wantUnzip(t, []P{}, nil, nil)
	// as many places as there may be, and as many runs
	wantUnzip(t, at(row(-9, api.MaxBuckets, 1)...), list(-9, api.MaxBuckets), numbers(api.MaxBuckets))
	wantUnzip(t, at(row(1, api.MaxSpans, 2)...), spans(api.MaxSpans, sp(1, 1)), numbers(api.MaxSpans))
	places, _ := span.Places(spans(api.MaxSpans, sp(1, 4)))
	wantUnzip(t, at(places...), spans(api.MaxSpans, sp(1, 4)), numbers(api.MaxBuckets))
}

func TestUnzipRefused(t *testing.T) {
	for _, places := range [][]int{
		{2, 2}, {2, 1}, {1, 2, 2}, {2, 2, 3}, {1, 3, 2}, {5, 1, 2}, {-1, -2}, {0, 1, 2, 3, 0},
		{-far - 1}, {far + 1}, {-far - 1, 0}, {0, far + 1}, {-far - 1, far + 1},
		{math.MinInt}, {math.MaxInt}, {math.MinInt, math.MaxInt}, {0, math.MaxInt}, {math.MaxInt, math.MinInt},
	} {
		wantUnzipRefused(t, at(places...), api.ErrRange)
	}
	// The values don't make up for places that stand twice.
	wantUnzipRefused(t, []P{{2, 5}, {2, 5}}, api.ErrRange)
	for _, many := range [][]int{
		row(0, api.MaxBuckets+1, 1), row(-far, api.MaxBuckets+1, 1), row(0, api.MaxBuckets+1, 2),
		row(1, api.MaxSpans+1, 2), row(-far, api.MaxSpans+1, 2048), row(0, api.MaxBuckets, 2),
	} {
		wantUnzipRefused(t, at(many...), api.ErrMany)
		// What doesn't rise, or is beyond, comes ahead of what is too many.
		last := len(many) - 1
		wantUnzipRefused(t, at(with(many, last, many[last-1])...), api.ErrRange)
		wantUnzipRefused(t, at(with(many, last, far+1)...), api.ErrRange)
		wantUnzipRefused(t, at(with(many, 0, -far-1)...), api.ErrRange)
	}
}

func TestUnzipOfZip(t *testing.T) {
	for _, l := range [][]S{
		nil, list(9, 0), list(3, 2, 1, 1), list(5, 0, 2, 1, 1, 0, 0, 0, 1, 2, 3, 0), list(-3, 2, 0, 1, 0, 0, 0, 1),
		list(-far, 0, 2*far, 1), spans(api.MaxSpans, sp(0, 4)), spans(api.MaxSpans, sp(2, 3)),
	} {
		values := numbers(span.Count(l))
		zipped, e := pairs.Zip(l, values)
		if e != api.OK {
			t.Errorf("Zip(%s): %d", text(l), e)
		}
		want, _ := span.Canon(l)
		wantUnzip(t, zipped, want, values)
		wantZip(t, want, values, zipped)
	}
}

// P7.1: Without

func TestWithout(t *testing.T) {
	l := []P{{1, 0}, {2, 5}, {3, 0}, {4, 7}, {9, -5}}
	for _, c := range []struct {
		l    []P
		zero int
		want []P
	}{
		{nil, 0, nil},
		{[]P{}, 5, nil},
		{l, 1, l},
		{l, 0, []P{{2, 5}, {4, 7}, {9, -5}}},
		{l, 5, []P{{1, 0}, {3, 0}, {4, 7}, {9, -5}}},
		{l, -5, l[:4]},
		{l[:1], 0, nil},
		{l[1:2], 0, l[1:2]},
		{slices.Repeat([]P{{4, 4}}, 5), 4, nil},
		// of any order, places that stand twice, places beyond
		{[]P{{9, 1}, {3, 0}, {9, 2}, {9, 1}, {-far - 1, 1}, {math.MaxInt, 3}, {3, 0}}, 0, []P{{9, 1}, {9, 2}, {9, 1}, {-far - 1, 1}, {math.MaxInt, 3}}},
		// a place is no value
		{[]P{{0, 1}, {1, 0}}, 0, []P{{0, 1}}},
		{at(row(0, api.MaxBuckets+9, 2)...), 1000, at(row(0, api.MaxBuckets+9, 2)...)[1:]},
	} {
		if got := pairs.Without(c.l, c.zero); !slices.Equal(got, c.want) {
			t.Errorf("Without(%s, %d): %s; want %s", text(c.l), c.zero, text(got), text(c.want))
		}
	}
}

func TestWithoutOfSeveralTypes(t *testing.T) {
	texts := []Q{{1, ""}, {2, "a"}, {3, ""}, {4, "a\x00"}}
	if got := pairs.Without(texts, ""); !slices.Equal(got, []Q{{2, "a"}, {4, "a\x00"}}) {
		t.Errorf("%v", got)
	}
	if got := pairs.Without(texts, "a"); !slices.Equal(got, []Q{{1, ""}, {3, ""}, {4, "a\x00"}}) {
		t.Errorf("%v", got)
	}
	things := []pairs.Pair[thing]{{1, thing{}}, {2, thing{n: [2]int{0, 1}}}, {3, thing{name: "a"}}}
	if got := pairs.Without(things, thing{}); !slices.Equal(got, things[1:]) {
		t.Errorf("%v", got)
	}
	if got := pairs.Without(things, thing{n: [2]int{0, 1}}); !slices.Equal(got, []pairs.Pair[thing]{things[0], things[2]}) {
		t.Errorf("%v", got)
	}
	counts := []pairs.Pair[int64]{{1, bottom}, {2, 0}, {3, top}}
	if got := pairs.Without(counts, bottom); !slices.Equal(got, counts[1:]) {
		t.Errorf("%v", got)
	}
	floats := []pairs.Pair[uint64]{{1, 1 << 63}, {2, 0}} // by their bits: -0 isn't 0
	if got := pairs.Without(floats, 0); !slices.Equal(got, floats[:1]) {
		t.Errorf("%v", got)
	}
}

// P7.1: Find

func TestFind(t *testing.T) {
	l := []P{{-3, 1}, {-2, 2}, {0, 3}, {5, 0}, {far, 5}}
	for _, p := range l {
		if v, ok := pairs.Find(l, p.Place); v != p.V || !ok {
			t.Errorf("Find(%d): %d, %v", p.Place, v, ok)
		}
	}
	for _, place := range []int{math.MinInt, -far, -4, -1, 1, 4, 6, far - 1, far + 1, math.MaxInt} {
		if v, ok := pairs.Find(l, place); v != 0 || ok {
			t.Errorf("Find(%d): %d, %v", place, v, ok)
		}
		if v, ok := pairs.Find[thing](nil, place); v != (thing{}) || ok {
			t.Errorf("Find in none: %v, %v", v, ok)
		}
		if v, ok := pairs.Find([]Q{}, place); v != "" || ok {
			t.Errorf("Find in none: %q, %v", v, ok)
		}
	}
}

func TestFindInAnyOrder(t *testing.T) {
	l := []Q{{7, "a"}, {3, "b"}, {7, "c"}, {math.MaxInt, "d"}, {-9, ""}, {3, "e"}, {math.MinInt, "f"}, {-9, "g"}}
	for place, want := range map[int]string{7: "a", 3: "b", math.MaxInt: "d", -9: "", math.MinInt: "f"} {
		if v, ok := pairs.Find(l, place); v != want || !ok {
			t.Errorf("Find(%d): %q, %v; want %q", place, v, ok, want)
		}
	}
	if v, ok := pairs.Find(l, 4); v != "" || ok {
		t.Errorf("Find(4): %q, %v", v, ok)
	}
}

// P7.1: Equal

func TestEqual(t *testing.T) {
	lists := [][]P{
		nil,
		{{0, 0}},
		{{0, 1}},
		{{1, 0}},
		{{1, 1}},
		{{1, 1}, {2, 2}},
		{{2, 2}, {1, 1}},
		{{1, 1}, {2, 3}},
		{{1, 1}, {3, 2}},
		{{1, 2}, {2, 2}},
		{{1, 1}, {2, 2}, {3, 3}},
		{{1, 1}, {1, 1}},
		{{1, 1}, {2, 2}, {0, 0}},
		{{math.MinInt, 1}},
		{{math.MaxInt, 1}},
		at(row(0, api.MaxBuckets+2, 2)...),
		at(row(0, api.MaxBuckets+1, 2)...),
		with(at(row(0, api.MaxBuckets+2, 2)...), api.MaxBuckets+1, P{0, 0}),
	}
	for i, a := range lists {
		for j, b := range lists {
			if got := pairs.Equal(a, slices.Clone(b)); got != (i == j) {
				t.Errorf("Equal(%s, %s): %v", text(a), text(b), got)
			}
		}
	}
	if !pairs.Equal([]P{}, nil) || !pairs.Equal(nil, []P{}) || !pairs.Equal([]P{}, []P{}) || !pairs.Equal[int](nil, nil) {
		t.Error("Equal: nil and empty ones are one")
	}
	if pairs.Equal(nil, []P{{}}) || pairs.Equal([]P{{}}, []P{}) {
		t.Error("Equal: a pair of noughts is a pair")
	}
}

func TestEqualOfSeveralTypes(t *testing.T) {
	if a := []Q{{1, "a"}, {2, ""}}; !pairs.Equal(a, slices.Clone(a)) || pairs.Equal(a, []Q{{1, "a"}, {2, "b"}}) || pairs.Equal(a, a[:1]) {
		t.Error("texts")
	}
	a := []pairs.Pair[thing]{{1, thing{"a", [2]int{1, 2}}}}
	if !pairs.Equal(a, slices.Clone(a)) || pairs.Equal(a, []pairs.Pair[thing]{{1, thing{"a", [2]int{1, 3}}}}) || pairs.Equal(a, []pairs.Pair[thing]{{1, thing{"b", [2]int{1, 2}}}}) {
		t.Error("structs")
	}
	b := []pairs.Pair[int64]{{1, bottom}, {2, top}}
	if !pairs.Equal(b, slices.Clone(b)) || pairs.Equal(b, []pairs.Pair[int64]{{1, bottom}, {2, top - 1}}) {
		t.Error("numbers")
	}
	one, two := 1, 1
	if c := []pairs.Pair[*int]{{1, &one}}; !pairs.Equal(c, slices.Clone(c)) || pairs.Equal(c, []pairs.Pair[*int]{{1, &two}}) {
		t.Error("pointers")
	}
}

// P7.2: Merge

// beside: which value came first, and which behind, stays to be seen.
func beside(x, y string) string { return "(" + x + " " + y + ")" }

// named: pairs of these places, whose values tell whose they are.
func named(name string, places ...int) []Q {
	var l []Q
	for _, p := range places {
		l = append(l, Q{p, name + strconv.Itoa(p)})
	}
	return l
}

// modelMerge: all places of both, in a map, sorted.
func modelMerge(a, b []Q) []Q {
	all := map[int]string{}
	for _, p := range a {
		all[p.Place] = p.V
	}
	for _, p := range b {
		if v, ok := all[p.Place]; ok {
			all[p.Place] = beside(v, p.V)
		} else {
			all[p.Place] = p.V
		}
	}
	var l []Q
	for _, p := range slices.Sorted(maps.Keys(all)) {
		l = append(l, Q{p, all[p]})
	}
	return l
}

func wantMerge(t *testing.T, a, b, want []Q) {
	t.Helper()
	if got := pairs.Merge(a, b, beside); !slices.Equal(got, want) {
		t.Errorf("Merge(%s, %s): %s; want %s", text(a), text(b), text(got), text(want))
	}
}

func TestMerge(t *testing.T) {
	l := named("a", -3, 0, 4)
	// with none
	wantMerge(t, nil, nil, nil)
	wantMerge(t, []Q{}, nil, nil)
	wantMerge(t, l, nil, l)
	wantMerge(t, nil, l, l)
	wantMerge(t, l, []Q{}, l)
	wantMerge(t, []Q{}, l, l)
	// that are apart
	wantMerge(t, l, named("b", 5, 9), []Q{{-3, "a-3"}, {0, "a0"}, {4, "a4"}, {5, "b5"}, {9, "b9"}})
	wantMerge(t, named("b", 5, 9), l, []Q{{-3, "a-3"}, {0, "a0"}, {4, "a4"}, {5, "b5"}, {9, "b9"}})
	// that lie between each other
	wantMerge(t, l, named("b", -4, -1, 1, 2, 6), []Q{{-4, "b-4"}, {-3, "a-3"}, {-1, "b-1"}, {0, "a0"}, {1, "b1"}, {2, "b2"}, {4, "a4"}, {6, "b6"}})
	// that share some places: the first one, the last one, one amidst
	wantMerge(t, l, named("b", -3, 1), []Q{{-3, "(a-3 b-3)"}, {0, "a0"}, {1, "b1"}, {4, "a4"}})
	wantMerge(t, l, named("b", -9, 4), []Q{{-9, "b-9"}, {-3, "a-3"}, {0, "a0"}, {4, "(a4 b4)"}})
	wantMerge(t, l, named("b", -1, 0, 1), []Q{{-3, "a-3"}, {-1, "b-1"}, {0, "(a0 b0)"}, {1, "b1"}, {4, "a4"}})
	wantMerge(t, named("b", -1, 0, 1), l, []Q{{-3, "a-3"}, {-1, "b-1"}, {0, "(b0 a0)"}, {1, "b1"}, {4, "a4"}})
	// that share all
	wantMerge(t, l, named("b", -3, 0, 4), []Q{{-3, "(a-3 b-3)"}, {0, "(a0 b0)"}, {4, "(a4 b4)"}})
	wantMerge(t, l, l, []Q{{-3, "(a-3 a-3)"}, {0, "(a0 a0)"}, {4, "(a4 a4)"}})
	// Places are any numbers here.
	ends := named("a", math.MinInt, -1, math.MaxInt)
	wantMerge(t, ends, named("b", math.MinInt, 0, math.MaxInt-1), modelMerge(ends, named("b", math.MinInt, 0, math.MaxInt-1)))
	wantMerge(t, named("a", math.MinInt), named("b", math.MaxInt), []Q{named("a", math.MinInt)[0], named("b", math.MaxInt)[0]})
	wantMerge(t, named("b", math.MaxInt), named("a", math.MinInt), []Q{named("a", math.MinInt)[0], named("b", math.MaxInt)[0]})
	wantMerge(t, named("a", -far-1), named("b", far+1), []Q{named("a", -far-1)[0], named("b", far+1)[0]})
}

func TestMergeOfNumbers(t *testing.T) {
	a := []P{{1, 1}, {3, 3}, {4, 0}}
	b := []P{{0, 5}, {3, 7}, {4, 0}, {9, 9}}
	less := func(x, y int) int { return x - y }
	// What joins to nought, or has it, stays.
	if got := pairs.Merge(a, b, less); !slices.Equal(got, []P{{0, 5}, {1, 1}, {3, -4}, {4, 0}, {9, 9}}) {
		t.Errorf("%v", got)
	}
	if got := pairs.Merge(b, a, less); !slices.Equal(got, []P{{0, 5}, {1, 1}, {3, 4}, {4, 0}, {9, 9}}) {
		t.Errorf("%v", got)
	}
	if got := pairs.Merge(a, a, less); !slices.Equal(got, []P{{1, 0}, {3, 0}, {4, 0}}) {
		t.Errorf("%v", got)
	}
	// Where no place is shared, no value is joined.
	none := func(x, y thing) thing { t.Error("joined"); return x }
	c, d := []pairs.Pair[thing]{{1, thing{name: "a"}}}, []pairs.Pair[thing]{{2, thing{name: "b"}}}
	if got := pairs.Merge(c, d, none); !slices.Equal(got, []pairs.Pair[thing]{c[0], d[0]}) {
		t.Errorf("%v", got)
	}
}

func TestMergeOfMany(t *testing.T) {
	// More than MaxBuckets of each: the limits are those of spans.
	a, b := named("a", row(-20000, 20000, 2)...), named("b", row(-20000, 15000, 3)...)
	wantMerge(t, a, b, modelMerge(a, b))
	wantMerge(t, b, a, modelMerge(b, a))
	wantMerge(t, a, a, modelMerge(a, a))
}

func TestMergeOfAllFewPlaces(t *testing.T) {
	// Each list has any of six places: all of both.
	some := func(name string, bits int) []Q {
		var places []int
		for p := range 6 {
			if bits>>p&1 == 1 {
				places = append(places, p-2)
			}
		}
		return named(name, places...)
	}
	for x := range 64 {
		for y := range 64 {
			a, b := some("a", x), some("b", y)
			wantMerge(t, a, b, modelMerge(a, b))
		}
	}
}

// ends: a call comes back, within a time that is long enough for any of these.
func ends(t *testing.T, f func()) {
	t.Helper()
	done := make(chan any)
	go func() {
		defer func() { done <- recover() }()
		f()
	}()
	select {
	case fault := <-done:
		if fault != nil {
			t.Errorf("panic: %v", fault)
		}
	case <-time.After(time.Minute):
		t.Fatal("no end")
	}
}

func TestMergeOfWhatDoesNotRiseEnds(t *testing.T) {
	lists := [][]Q{
		nil, named("a", 1, 2), named("a", 2, 1), named("a", 2, 2, 2), named("a", 1, 5, 3, 5, 1), named("a", 9, 8, 7, 6),
		named("a", math.MaxInt, math.MinInt, math.MaxInt), named("a", math.MinInt, math.MinInt), named("a", row(5000, 5000, -1)...),
		named("a", slices.Repeat([]int{0}, 5000)...), named("a", slices.Repeat([]int{0, 1}, 2500)...),
	}
	ends(t, func() {
		for _, a := range lists {
			for _, b := range lists {
				pairs.Merge(a, b, func(x, _ string) string { return x })
			}
		}
	})
	ends(t, func() {
		random := rand.New(rand.NewSource(5))
		for range 2000 {
			var a, b []Q
			for range random.Intn(9) {
				a, b = append(a, Q{Place: random.Intn(4)}), append(b, Q{Place: random.Intn(4)})
			}
			pairs.Merge(a, b[:random.Intn(len(b)+1)], beside)
		}
	})
}

// P7.3

// modelSums: in numbers of any size, those that are beyond being told so.
func modelSums(deltas []int64) ([]int64, api.Errno) {
	var sums []int64
	sum := new(big.Int)
	for _, d := range deltas {
		sum.Add(sum, big.NewInt(d))
		if !sum.IsInt64() {
			return nil, api.ErrOverflow
		}
		sums = append(sums, sum.Int64())
	}
	return sums, api.OK
}

// modelDeltas: likewise.
func modelDeltas(values []int64) ([]int64, api.Errno) {
	var deltas []int64
	for i, v := range values {
		d := big.NewInt(v)
		if i > 0 {
			d.Sub(d, big.NewInt(values[i-1]))
		}
		if !d.IsInt64() {
			return nil, api.ErrOverflow
		}
		deltas = append(deltas, d.Int64())
	}
	return deltas, api.OK
}

// wantAbsolute: differences have these sums, the last of which is Sum, and are what they were again.
func wantAbsolute(t *testing.T, deltas, want []int64) {
	t.Helper()
	got, e := pairs.Absolute(deltas)
	if e != api.OK || !slices.Equal(got, want) {
		t.Errorf("Absolute(%s): %s, %d; want %s", text(deltas), text(got), e, text(want))
	}
	last := int64(0)
	if len(want) > 0 {
		last = want[len(want)-1]
	}
	if sum, e := pairs.Sum(deltas); e != api.OK || sum != last {
		t.Errorf("Sum(%s): %d, %d; want %d", text(deltas), sum, e, last)
	}
	if back, e := pairs.Deltas(want); e != api.OK || !slices.Equal(back, deltas) {
		t.Errorf("Deltas(%s): %s, %d; want %s", text(want), text(back), e, text(deltas))
	}
}

// wantSumsBeyond: one of the sums is.
func wantSumsBeyond(t *testing.T, deltas []int64) {
	t.Helper()
	if got, e := pairs.Absolute(deltas); e != api.ErrOverflow || len(got) != 0 {
		t.Errorf("Absolute(%s): %s, %d", text(deltas), text(got), e)
	}
	if sum, e := pairs.Sum(deltas); e != api.ErrOverflow || sum != 0 {
		t.Errorf("Sum(%s): %d, %d", text(deltas), sum, e)
	}
}

// wantDeltasBeyond: one of the differences is.
func wantDeltasBeyond(t *testing.T, values []int64) {
	t.Helper()
	if got, e := pairs.Deltas(values); e != api.ErrOverflow || len(got) != 0 {
		t.Errorf("Deltas(%s): %s, %d", text(values), text(got), e)
	}
}

func TestSums(t *testing.T) {
	for _, c := range []struct{ deltas, sums []int64 }{
		{[]int64{3, -1}, []int64{3, 2}}, // the chapter's example
		{nil, nil},
		{[]int64{}, nil},
		{[]int64{0}, []int64{0}},
		{[]int64{7}, []int64{7}},
		{[]int64{-7}, []int64{-7}},
		{[]int64{top}, []int64{top}},
		{[]int64{bottom}, []int64{bottom}},
		{[]int64{3, -1, 5, 0, -9}, []int64{3, 2, 7, 7, -2}},
		{[]int64{0, 0, 0}, []int64{0, 0, 0}},
		// at the greatest and at the least, within and at the end
		{[]int64{top - 1, 1}, []int64{top - 1, top}},
		{[]int64{1, top - 1, -5}, []int64{1, top, top - 5}},
		{[]int64{top, 0, -top, top}, []int64{top, top, 0, top}},
		{[]int64{bottom + 1, -1}, []int64{bottom + 1, bottom}},
		{[]int64{-1, bottom + 1, 5}, []int64{-1, bottom, bottom + 5}},
		{[]int64{bottom, 0, top, 1, bottom}, []int64{bottom, bottom, -1, 0, bottom}},
		{[]int64{top, bottom, top}, []int64{top, -1, top - 1}},
		{[]int64{bottom, top, bottom + 1}, []int64{bottom, -1, bottom}},
		{[]int64{0, bottom}, []int64{0, bottom}},
		{[]int64{0, top}, []int64{0, top}},
	} {
		wantAbsolute(t, c.deltas, c.sums)
	}
}

func TestSumsBeyond(t *testing.T) {
	for _, deltas := range [][]int64{
		{top, 1}, {1, top}, {top, top}, {top - 5, 6}, {0, top, 1},
		{bottom, -1}, {-1, bottom}, {bottom, bottom}, {bottom + 5, -6}, {0, bottom, -1},
		{1, 1, top - 1}, {-1, -1, bottom + 1},
		// within, though the last sum isn't
		{top, 1, -1}, {bottom, -1, 1}, {top, top, bottom, bottom}, {bottom, bottom, top, top}, {5, top, bottom}, {-5, bottom, top},
		// twice round
		{top, top, 1, 1}, {bottom, bottom, 0},
		append(slices.Repeat([]int64{1 << 62}, 2), 0), slices.Repeat([]int64{1 << 62}, 4), slices.Repeat([]int64{-1 << 62}, 3),
	} {
		wantSumsBeyond(t, deltas)
	}
	wantAbsolute(t, slices.Repeat([]int64{-1 << 62}, 2), []int64{-1 << 62, bottom})
}

func TestDeltas(t *testing.T) {
	for _, c := range []struct{ values, want []int64 }{
		{nil, nil},
		{[]int64{}, nil},
		{[]int64{3, 2, 7}, []int64{3, -1, 5}},
		{[]int64{top}, []int64{top}},
		{[]int64{bottom}, []int64{bottom}},
		{[]int64{bottom, bottom}, []int64{bottom, 0}},
		{[]int64{top, top}, []int64{top, 0}},
		{[]int64{0, top, 0, bottom}, []int64{0, top, -top, bottom}},
		{[]int64{-1, top - 1}, []int64{-1, top}},
		{[]int64{-1, bottom}, []int64{-1, bottom + 1}},
		{[]int64{bottom, -1}, []int64{bottom, top}},
		{[]int64{top, -1}, []int64{top, bottom}},
		{[]int64{1, bottom + 1}, []int64{1, bottom}},
		{[]int64{5, bottom + 5, 4}, []int64{5, bottom, top}},
	} {
		got, e := pairs.Deltas(c.values)
		if e != api.OK || !slices.Equal(got, c.want) {
			t.Errorf("Deltas(%v): %v, %d; want %v", c.values, got, e, c.want)
		}
		wantAbsolute(t, c.want, c.values)
	}
	// Numbers that lie farther apart than a number can say, within and at the end.
	for _, values := range [][]int64{
		{-1, top}, {-2, top}, {top, -2}, {1, bottom}, {0, bottom, 0}, {bottom, 0}, {bottom, 1}, {bottom, top}, {top, bottom},
		{5, bottom + 4}, {bottom + 4, 5}, {0, 1, bottom, 2, 3}, {7, -1, top, top, 5}, {top, -2, 0, 0},
		{1 << 62, -1<<62 - 1}, {-1 << 62, 1 << 62},
	} {
		wantDeltasBeyond(t, values)
	}
}

func TestSumOfNone(t *testing.T) {
	for _, l := range [][]int64{nil, {}} {
		if sum, e := pairs.Sum(l); sum != 0 || e != api.OK {
			t.Errorf("Sum: %d, %d", sum, e)
		}
	}
}

func TestManySums(t *testing.T) {
	// There is no limit of their number.
	n := 3 * api.MaxBuckets
	want := make([]int64, n)
	for i := range want {
		want[i] = int64(i+1) << 40
	}
	wantAbsolute(t, slices.Repeat([]int64{1 << 40}, n), want)
}

// anyCount: small, or near an end or a half of the numbers.
func anyCount(random *rand.Rand) int64 {
	near := int64(random.Intn(7) - 3)
	switch random.Intn(6) {
	case 0:
		return top + near // wraps round, which is as good a number as any
	case 1:
		return bottom + near
	case 2:
		return []int64{1 << 62, -1 << 62}[random.Intn(2)] + near
	case 3:
		return int64(random.Uint64())
	}
	return near
}

func TestSumsAgainstTheModel(t *testing.T) {
	random := rand.New(rand.NewSource(6))
	seen := map[string]int{}
	for range 50000 {
		l := make([]int64, random.Intn(7))
		for i := range l {
			l[i] = anyCount(random)
		}
		if sums, e := modelSums(l); e == api.OK {
			wantAbsolute(t, l, sums)
			seen["sums"]++
		} else {
			wantSumsBeyond(t, l)
			seen["no sums"]++
		}
		if deltas, e := modelDeltas(l); e == api.OK {
			wantAbsolute(t, deltas, l)
			seen["deltas"]++
		} else {
			wantDeltasBeyond(t, l)
			seen["no deltas"]++
		}
	}
	if len(seen) != 4 || slices.Min(slices.Collect(maps.Values(seen))) < 5000 {
		t.Errorf("too few of a kind: %v", seen)
	}
}

// Against the model

func TestPairsAgainstTheModel(t *testing.T) {
	random := rand.New(rand.NewSource(7))
	seen := map[api.Errno]int{}
	for range 20000 {
		var l []S
		for i := range random.Intn(6) {
			l = append(l, sp(random.Intn(4)-1+min(i, 1), random.Intn(5)))
			if random.Intn(30) == 0 {
				l[i].Len = -1
			}
		}
		values := numbers(random.Intn(14))
		if random.Intn(2) == 0 {
			values = numbers(span.Count(l))
		}
		places, e := span.Places(l)
		if e == api.OK && len(places) != len(values) {
			e = api.ErrForm
		}
		seen[e]++
		if e != api.OK {
			wantZipRefused(t, l, values, e)
			continue
		}
		want := at(places...)
		wantZip(t, l, values, want)
		from, _ := span.From(places)
		wantUnzip(t, want, from, values)
		random.Shuffle(len(want), func(i, j int) { want[i], want[j] = want[j], want[i] })
		if !slices.IsSortedFunc(want, func(x, y P) int { return cmp.Compare(x.Place, y.Place) }) {
			wantUnzipRefused(t, want, api.ErrRange)
		}
	}
	for _, e := range []api.Errno{api.OK, api.ErrForm, api.ErrSpan} {
		if seen[e] < 500 {
			t.Errorf("%d was told %d times", e, seen[e])
		}
	}
}

// P1 and the rules on memory

func TestWhatCannotBeComparedDoesNotPanic(t *testing.T) {
	type A = pairs.Pair[any]
	l := []A{{1, 5}, {2, []int{5}}, {3, nil}, {4, map[int]int{}}, {5, "a"}}
	for _, zero := range []any{[]int{5}, map[int]int{}, []string{}, func() {}} {
		if got := pairs.Without(l, zero); len(got) != len(l) {
			t.Errorf("Without(%v): %v", zero, got)
		}
	}
	if got := pairs.Without(l, nil); len(got) != 4 || got[1].Place != 2 || got[2].Place != 4 {
		t.Errorf("Without(nil): %v", got)
	}
	if got := pairs.Without(l, any("a")); len(got) != 4 || got[3].Place != 4 {
		t.Errorf("Without(a): %v", got)
	}
	if pairs.Equal(l, l) || pairs.Equal(l[:2], l[:2]) || pairs.Equal(l, l[:3]) || pairs.Equal(l[1:2], []A{{2, "a"}}) {
		t.Error("Equal: what can't be compared isn't one with anything")
	}
	if !pairs.Equal(l[:1], []A{{1, 5}}) || !pairs.Equal(l[2:3], []A{{3, nil}}) || pairs.Equal(l[:1], []A{{1, int64(5)}}) {
		t.Error("Equal: what can be compared is")
	}
}

func TestMergeWithAJoinThatPanics(t *testing.T) {
	a, b := named("a", 1, 3), named("b", 2, 3, 4)
	want := []Q{{1, "a1"}, {2, "b2"}, {3, ""}, {4, "b4"}}
	if got := pairs.Merge(a, b, nil); !slices.Equal(got, want) {
		t.Errorf("%v", got)
	}
	if got := pairs.Merge(a, b, func(x, y string) string { panic(x) }); !slices.Equal(got, want) {
		t.Errorf("%v", got)
	}
	// Where no place is shared, a nil one isn't called.
	if got := pairs.Merge(a, named("b", 2), nil); !slices.Equal(got, []Q{{1, "a1"}, {2, "b2"}, {3, "a3"}}) {
		t.Errorf("%v", got)
	}
	if got := pairs.Merge[string](nil, nil, nil); len(got) != 0 {
		t.Errorf("%v", got)
	}
}

// kept: a list with spare room, and what all of it was.
type kept[T comparable] struct{ whole, was []T }

func keep[T comparable](l ...T) kept[T] { return kept[T]{l, slices.Clone(l)} }

func (k kept[T]) changed() bool { return !slices.Equal(k.whole, k.was) }

func TestNothingHandedInIsChanged(t *testing.T) {
	l := keep(sp(3, 2), sp(0, 0), sp(1, 1), sp(7, 7), sp(8, 8))
	values := keep("a", "", "c", "x", "y", "z")
	a := keep(named("a", 1, 2, 3, 9, 8, 7)...)
	b := keep(named("b", 0, 2, 4, 9, 8, 7)...)
	sums := keep[int64](3, 2, top, 9, 8, 7)
	zip := func() {
		pairs.Zip(l.whole[:3], values.whole[:3])
		pairs.Zip(l.whole[:3], values.whole[:2])
		pairs.Unzip(a.whole[:3])
		pairs.Unzip(a.whole[:5])
		pairs.Without(a.whole[:3], "a1")
		pairs.Without(a.whole[:3], "")
		pairs.Find(a.whole[:3], 9)
		pairs.Equal(a.whole[:3], b.whole[:3])
	}
	merge := func() {
		pairs.Merge(a.whole[:3], b.whole[:3], beside)
		pairs.Merge(b.whole[:3], a.whole[:3], beside)
		pairs.Merge(a.whole[:3], b.whole[:0], beside)
		pairs.Merge(a.whole[:0], b.whole[:3], beside)
		pairs.Merge(a.whole[:0], a.whole[:3], beside)
		pairs.Merge(a.whole[:2], a.whole[2:3], beside)
		pairs.Merge(a.whole[:5], b.whole[:5], beside)
	}
	count := func() {
		for n := range 6 {
			pairs.Absolute(sums.whole[:n])
			pairs.Deltas(sums.whole[:n])
			pairs.Sum(sums.whole[:n])
		}
	}
	for _, call := range []func(){zip, merge, count} {
		call()
		if l.changed() || values.changed() || a.changed() || b.changed() || sums.changed() {
			t.Fatalf("%v, %v, %v, %v, %v", l.whole, values.whole, a.whole, b.whole, sums.whole)
		}
	}
}

// spoil: all that a list has room for is other than it was.
func spoil[T any](l []T, v T) {
	l = l[:cap(l)]
	for i := range l {
		l[i] = v
	}
}

// told: every list that calls answer, of lists that are handed in; calls that hand on a list as it is among them.
type told struct {
	pairs  [][]Q
	spans  [][]S
	values [][]string
	sums   [][]int64
}

// roomy: a list with spare room, so that an answer that goes on in it would be seen.
func roomy[T any](l ...T) []T { return append(make([]T, 0, len(l)+5), l...) }

type handedIn struct {
	l      []S
	values []string
	a      []Q
	sums   []int64
}

func newHandedIn() handedIn {
	return handedIn{roomy(sp(1, 3)), roomy("a1", "a2", "a3"), roomy(named("a", 1, 2, 3)...), roomy[int64](5, 5, 5)}
}

func (h handedIn) String() string {
	return strings.Join([]string{fmt.Sprint(h.l), fmt.Sprint(h.values), fmt.Sprint(h.a), fmt.Sprint(h.sums)}, " ")
}

func (h handedIn) spoil() {
	spoil(h.l, sp(77, 77))
	spoil(h.values, "no")
	spoil(h.a, Q{77, "no"})
	spoil(h.sums, 77)
}

func answersOf(h handedIn) told {
	var x told
	zipped, _ := pairs.Zip(h.l, h.values)
	l, values, _ := pairs.Unzip(h.a)
	x.pairs = [][]Q{
		zipped, pairs.Without(h.a, ""), pairs.Merge(h.a, nil, beside), pairs.Merge(nil, h.a, beside), pairs.Merge(h.a[:0], h.a, beside),
		pairs.Merge(h.a[:1], h.a[1:], beside), pairs.Merge(h.a[1:], h.a[:1], beside), pairs.Merge(h.a, h.a, func(x, _ string) string { return x }),
	}
	x.spans, x.values = [][]S{l}, [][]string{values}
	zero := slices.Concat(h.sums[:1], []int64{0, 0}) // whose sums are h.sums
	absolute, _ := pairs.Absolute(zero)
	deltas, _ := pairs.Deltas(h.sums)
	again, _ := pairs.Absolute(deltas)
	x.sums = [][]int64{absolute, again}
	return x
}

// wantTold: the answers are what they should be, whichever of the others were spoilt; each is spoilt behind its turn.
func wantTold(t *testing.T, x told) {
	t.Helper()
	for i, l := range x.pairs {
		if !slices.Equal(l, named("a", 1, 2, 3)) {
			t.Errorf("pairs %d: %v", i, l)
		}
		spoil(l, Q{66, "other"})
	}
	for i, l := range x.spans {
		if !slices.Equal(l, list(1, 3)) {
			t.Errorf("spans %d: %v", i, l)
		}
		spoil(l, sp(66, 66))
	}
	for i, l := range x.values {
		if !slices.Equal(l, []string{"a1", "a2", "a3"}) {
			t.Errorf("values %d: %v", i, l)
		}
		spoil(l, "other")
	}
	for i, l := range x.sums {
		if !slices.Equal(l, []int64{5, 5, 5}) {
			t.Errorf("sums %d: %v", i, l)
		}
		spoil(l, 66)
	}
}

func TestWhatIsToldIsNewMemory(t *testing.T) {
	h := newHandedIn()
	was := h.String()
	first, second := answersOf(h), answersOf(h)
	wantTold(t, first)
	if h.String() != was {
		t.Errorf("handed in: %s; was %s", h, was)
	}
	// What was told stays, whatever is done to other answers and to what was handed in.
	h.spoil()
	wantTold(t, second)
}

// wantApart: a list, spare room and all, is as it was when all that an answer has room for is spoilt.
func wantApart[T, A comparable](t *testing.T, name string, in, answer []T, other []A) {
	t.Helper()
	was := slices.Clone(in[:cap(in)])
	var zero T
	spoil(answer, zero)
	var none A
	spoil(other, none)
	if !slices.Equal(in[:cap(in)], was) {
		t.Errorf("%s of %d: the answer is in what was handed in", name, len(in))
	}
}

func TestShortAnswersAreNewMemory(t *testing.T) {
	// None, one, two: what has little or nothing to do might hand on what it was given.
	for n := range 3 {
		a := append(roomy[Q](), named("a", 1, 2)...)
		spoil(a[2:], Q{5, "spare"})
		a = a[:n]
		sums := append(roomy[int64](), 7, 7)
		spoil(sums[2:], 9)
		sums = sums[:n]
		values := append(roomy[string](), "a", "b")
		spoil(values[2:], "spare")
		values = values[:n]
		absolute, _ := pairs.Absolute(sums)
		wantApart(t, "Absolute", sums, absolute, []int{})
		deltas, _ := pairs.Deltas(sums)
		wantApart(t, "Deltas", sums, deltas, []int{})
		wantApart(t, "Without", a, pairs.Without(a, ""), []int{})
		wantApart(t, "Merge", a, pairs.Merge(a, nil, beside), []int{})
		wantApart(t, "Merge", a, pairs.Merge(nil, a, beside), []int{})
		wantApart(t, "Merge", a, pairs.Merge(a, a, beside), []int{})
		zipped, _ := pairs.Zip(list(3, n), values)
		wantApart(t, "Zip", values, nil, zipped)
		_, unzipped, _ := pairs.Unzip(a)
		wantApart(t, "Unzip", a, nil, unzipped)
	}
}
