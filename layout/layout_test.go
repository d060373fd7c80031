package layout_test

import (
	"fmt"
	"maps"
	"math"
	"math/big"
	"math/rand"
	"slices"
	"testing"

	"tidepole/api"
	"tidepole/layout"
	"tidepole/pairs"
	"tidepole/span"
)

const (
	far    = api.MaxOffset
	most   = api.MaxBuckets
	top    = math.MaxInt64
	bottom = math.MinInt64
)

// S: a span, and I: an insert, as short as the tables below want them.
type S = span.Span

type I = layout.Insert

// thing: a struct as a value.
type thing struct {
	name string
	n    [2]int
}

// sp: a span, and list: some of them, each by its Offset and its Len.
func sp(offset, n int) S { return S{Offset: offset, Len: n} }

func list(numbers ...int) []S {
	var l []S
	for s := range slices.Chunk(numbers, 2) {
		l = append(l, sp(s[0], s[1]))
	}
	return l
}

// ins: inserts, each by its At and its N.
func ins(numbers ...int) []I {
	var l []I
	for s := range slices.Chunk(numbers, 2) {
		l = append(l, I{At: s[0], N: s[1]})
	}
	return l
}

// of: spans of places that rise, and may be too many for layer 6's From to tell.
func of(places ...int) []S {
	var l []S
	for i, p := range places {
		switch {
		case i == 0:
			l = append(l, sp(p, 1))
		case p == places[i-1]+1:
			l[len(l)-1].Len++
		default:
			l = append(l, sp(p-places[i-1]-1, 1))
		}
	}
	return l
}

// row: n places, each so far behind the one ahead.
func row(first, n, step int) []int {
	var places []int
	for i := range n {
		places = append(places, first+i*step)
	}
	return places
}

// spans: n spans, all alike.
func spans(n int, s S) []S { return slices.Repeat([]S{s}, n) }

// text: a list, cut short for the eye.
func text[T any](l []T) string {
	if len(l) <= 12 {
		return fmt.Sprint(l)
	}
	return fmt.Sprintf("%v.. (%d)", l[:4], len(l))
}

// numbers: n values, all different, and none of them 0.
func numbers(n int) []int {
	var l []int
	for i := range n {
		l = append(l, 1000+i)
	}
	return l
}

// The models: the chapter's words, by other means.

// modelInserts: ahead of as many values as there are places of own below one that it lacks.
func modelInserts(own, all []int) []I {
	missing := map[int]int{}
	for _, p := range all {
		if slices.Contains(own, p) {
			continue
		}
		at := 0
		for _, q := range own {
			if q < p {
				at++
			}
		}
		missing[at]++
	}
	var l []I
	for _, at := range slices.Sorted(maps.Keys(missing)) {
		l = append(l, I{At: at, N: missing[at]})
	}
	return l
}

// either: the places that one or the other has, rising.
func either(a, b []int) []int {
	taken := map[int]int{}
	for _, p := range slices.Concat(a, b) {
		taken[p] = 1
	}
	return slices.Sorted(maps.Keys(taken))
}

// modelExpand: ahead of each number, and of the one behind all, as many zeros as are said of it.
func modelExpand[T any](values []T, l []I, zero T) []T {
	more := map[int]int{}
	for _, in := range l {
		more[in.At] = in.N
	}
	var expanded []T
	for i := range len(values) + 1 {
		expanded = append(expanded, slices.Repeat([]T{zero}, more[i])...)
		if i < len(values) {
			expanded = append(expanded, values[i])
		}
	}
	return expanded
}

// round: a number of any size, modulo 2^64, as one with a sign.
func round(v *big.Int) int64 {
	size := new(big.Int).Lsh(big.NewInt(1), 64)
	return int64(new(big.Int).Mod(v, size).Uint64())
}

// modelDeltas: sums in numbers of any size, their differences being brought back at the end alone.
func modelDeltas(deltas []int64, l []I) []int64 {
	var sums []*big.Int
	sum := new(big.Int)
	for _, d := range deltas {
		sum = new(big.Int).Add(sum, big.NewInt(d))
		sums = append(sums, sum)
	}
	var want []int64
	ahead := new(big.Int)
	for _, v := range modelExpand(sums, l, new(big.Int)) {
		want = append(want, round(new(big.Int).Sub(v, ahead)))
		ahead = v
	}
	return want
}

// modelRight: in numbers of any size.
func modelRight(l []I, values int) bool {
	sum := new(big.Int)
	for i, in := range l {
		if in.At < 0 || in.At > values || in.N < 1 || in.N > most {
			return false
		}
		if i > 0 && l[i-1].At >= in.At {
			return false
		}
		sum.Add(sum, big.NewInt(int64(in.N)))
	}
	return sum.Cmp(big.NewInt(most)) <= 0
}

// wantCompare: both inserts, either way round.
func wantCompare(t *testing.T, a, b []S, forward, backward []I) {
	t.Helper()
	for range 2 {
		f, g, e := layout.Compare(a, b)
		if e != api.OK || !slices.Equal(f, forward) || !slices.Equal(g, backward) {
			t.Errorf("Compare(%s, %s): %s, %s, %d; want %s, %s", text(a), text(b), text(f), text(g), e, text(forward), text(backward))
		}
		a, b, forward, backward = b, a, backward, forward
	}
}

// wantCompareRefused: an error, and nothing else.
func wantCompareRefused(t *testing.T, a, b []S, want api.Errno) {
	t.Helper()
	if f, g, e := layout.Compare(a, b); e != want || len(f) != 0 || len(g) != 0 {
		t.Errorf("Compare(%s, %s): %s, %s, %d; want %d", text(a), text(b), text(f), text(g), e, want)
	}
}

// wantExpand: these values with these zeros.
func wantExpand[T comparable](t *testing.T, values []T, l []I, zero T, want []T) {
	t.Helper()
	if got, e := layout.Expand(values, l, zero); e != api.OK || !slices.Equal(got, want) {
		t.Errorf("Expand(%s, %s, %v): %s, %d; want %s", text(values), text(l), zero, text(got), e, text(want))
	}
}

// wantDeltas: likewise, of differences.
func wantDeltas(t *testing.T, deltas []int64, l []I, want []int64) {
	t.Helper()
	if got, e := layout.ExpandDeltas(deltas, l); e != api.OK || !slices.Equal(got, want) {
		t.Errorf("ExpandDeltas(%s, %s): %s, %d; want %s", text(deltas), text(l), text(got), e, text(want))
	}
}

// wantRight: inserts may be, or may not, of as many values, so all calls tell that ask.
func wantRight(t *testing.T, l []I, values int, want bool) {
	t.Helper()
	if got := layout.Right(l, values); got != want {
		t.Errorf("Right(%s, %d): %v", text(l), values, got)
	}
	if values < 0 || values > 3*most {
		return
	}
	if want {
		wantExpand(t, numbers(values), l, -7, modelExpand(numbers(values), l, -7))
		deltas := slices.Repeat([]int64{3}, values)
		wantDeltas(t, deltas, l, modelDeltas(deltas, l))
		return
	}
	if got, e := layout.Expand(numbers(values), l, -7); e != api.ErrRange || len(got) != 0 {
		t.Errorf("Expand(%d values, %s): %s, %d", values, text(l), text(got), e)
	}
	if got, e := layout.Expand(slices.Repeat([]string{"a"}, values), l, "b"); e != api.ErrRange || len(got) != 0 {
		t.Errorf("Expand(%d texts, %s): %s, %d", values, text(l), text(got), e)
	}
	if got, e := layout.ExpandDeltas(make([]int64, values), l); e != api.ErrRange || len(got) != 0 {
		t.Errorf("ExpandDeltas(%d deltas, %s): %s, %d", values, text(l), text(got), e)
	}
}

// placeValues: values that tell their places.
func placeValues(places []int) []string {
	var l []string
	for _, p := range places {
		l = append(l, fmt.Sprint("at ", p))
	}
	return l
}

// wantBothExpanded: what Compare's words promise: by the inserts the values of either are those of the union.
func wantBothExpanded(t *testing.T, a, b []S) {
	t.Helper()
	forward, backward, e := layout.Compare(a, b)
	if e != api.OK {
		t.Fatalf("Compare(%s, %s): %d", text(a), text(b), e)
	}
	union, _ := span.Union(a, b)
	all, _ := span.Places(union)
	for _, side := range []struct {
		l       []S
		inserts []I
	}{{a, forward}, {b, backward}} {
		own, _ := span.Places(side.l)
		if !layout.Right(side.inserts, len(own)) || layout.Many(side.inserts) != len(all)-len(own) {
			t.Errorf("Compare(%s, %s): %s of %d values", text(a), text(b), text(side.inserts), len(own))
		}
		want := placeValues(all)
		for i, p := range all {
			if !slices.Contains(own, p) {
				want[i] = "none"
			}
		}
		wantExpand(t, placeValues(own), side.inserts, "none", want)
	}
}

// P8.1: Compare

func TestCompareOfTheChapter(t *testing.T) {
	wantCompare(t, of(3, 4), of(4, 6), ins(2, 1), ins(0, 1))
}

func TestCompareWithNoSpans(t *testing.T) {
	for _, none := range [][]S{nil, {}, list(0, 0), list(far, 0), list(-9, 0, 3, 0), spans(api.MaxSpans, S{})} {
		for _, other := range [][]S{nil, {}, list(7, 0)} {
			wantCompare(t, none, other, nil, nil)
		}
		wantCompare(t, none, of(5), ins(0, 1), nil)
		wantCompare(t, none, of(-3, 0, 1, 9), ins(0, 4), nil)
		wantCompare(t, none, list(0, most), ins(0, most), nil)
		wantCompare(t, none, spans(api.MaxSpans, sp(1, 1)), ins(0, api.MaxSpans), nil)
	}
}

func TestCompare(t *testing.T) {
	for _, c := range []struct {
		a, b              []S
		forward, backward []I
	}{
		// that are one
		{of(5), of(5), nil, nil},
		{of(-1, 2, 3), of(-1, 2, 3), nil, nil},
		// ahead of all values, between two, behind all
		{of(5, 6), of(4, 5, 6), ins(0, 1), nil},
		{of(5, 7), of(5, 6, 7), ins(1, 1), nil},
		{of(5, 6), of(5, 6, 7), ins(2, 1), nil},
		{of(5, 6), of(-far, 5, 6, far), ins(0, 1, 2, 1), nil},
		// several at one number are one insert, whether they touch or not
		{of(5), of(1, 2, 3, 5), ins(0, 3), nil},
		{of(5), of(-9, 0, 3, 5), ins(0, 3), nil},
		{of(5, 15), of(5, 7, 8, 11, 15), ins(1, 3), nil},
		{of(5), of(5, 6, 9, 10, 20), ins(1, 4), nil},
		// at numbers that follow one another
		{of(2, 4, 6), of(1, 2, 3, 4, 5, 6, 7), ins(0, 1, 1, 1, 2, 1, 3, 1), nil},
		{of(10, 20, 30), of(8, 9, 10, 11, 20, 21, 25, 29, 30, 31, 40), ins(0, 2, 1, 1, 2, 3, 3, 2), nil},
		// and at some that don't
		{of(1, 2, 3, 4, 5), of(0, 1, 2, 3, 4, 5, 6), ins(0, 1, 5, 1), nil},
		{of(1, 2, 4, 5, 7), of(1, 2, 3, 4, 5, 6, 7), ins(2, 1, 4, 1), nil},
		// that share some places
		{of(1, 2, 5, 9), of(0, 2, 3, 4, 9, 10), ins(0, 1, 2, 2, 4, 1), ins(1, 1, 4, 1)},
		{of(1, 2, 3), of(2, 3, 4), ins(3, 1), ins(0, 1)},
		{of(1, 5, 9), of(3, 5, 7), ins(1, 1, 2, 1), ins(0, 1, 3, 1)},
		{of(5, 6, 7), of(4, 6, 8), ins(0, 1, 3, 1), ins(1, 1, 2, 1)},
		// that share none: apart, touching, between each other
		{of(1, 2), of(8, 9, 10), ins(2, 3), ins(0, 2)},
		{of(1, 2), of(3, 4, 5), ins(2, 3), ins(0, 2)},
		{of(1, 3, 5), of(2, 4, 6), ins(1, 1, 2, 1, 3, 1), ins(0, 1, 1, 1, 2, 1)},
		{of(1, 2, 7, 8), of(4, 5, 11), ins(2, 2, 4, 1), ins(0, 2, 2, 2)},
		{of(-far), of(far), ins(1, 1), ins(0, 1)},
		{of(-far, far), of(-1, 0, 1), ins(1, 3), ins(0, 1, 3, 1)},
	} {
		wantCompare(t, c.a, c.b, c.forward, c.backward)
		wantBothExpanded(t, c.a, c.b)
	}
}

func TestCompareOfPlacesOtherwiseCut(t *testing.T) {
	// Spans that touch and spans without places are no places of their own.
	cut := [][]S{of(3, 4, 5, 9), list(3, 1, 0, 2, 3, 1), list(1, 0, 2, 3, 0, 0, 3, 1, 7, 0), list(3, 2, 0, 0, 0, 1, 1, 0, 2, 1, 0, 0)}
	for _, a := range cut {
		for _, b := range cut {
			wantCompare(t, a, b, nil, nil)
		}
		wantCompare(t, a, of(4, 6), ins(3, 1), ins(0, 1, 1, 1, 2, 1))
		wantCompare(t, a, list(2, 1, 0, 0, 0, 1, 9, 0), ins(0, 1), ins(2, 3))
		wantBothExpanded(t, a, list(-2, 1, 1, 0, 0, 0, 3, 3, 0, 1))
	}
}

func TestCompareOfWrongLists(t *testing.T) {
	wrong := [][]S{
		list(0, -1), list(3, 2, -1, 1), list(3, 2, 1, -1), list(far+1, 1), list(far+1, 0), list(-far-1, 1), list(far, 2), list(3, 1, 2*far+1, 0),
		list(math.MinInt, 1), list(math.MaxInt, 1), list(0, math.MinInt), list(0, math.MaxInt), list(0, most+1), list(0, most, 0, 1), list(far, 1, 0, 0),
	}
	many := [][]S{spans(api.MaxSpans+1, S{}), spans(api.MaxSpans+1, sp(1, 1)), spans(api.MaxSpans+1, sp(-1, -1))}
	for _, right := range [][]S{nil, of(3, 4), list(0, most), spans(api.MaxSpans, sp(1, 1))} {
		for _, l := range wrong {
			wantCompareRefused(t, l, right, api.ErrSpan)
			wantCompareRefused(t, right, l, api.ErrSpan)
		}
		for _, l := range many {
			wantCompareRefused(t, l, right, api.ErrMany)
			wantCompareRefused(t, right, l, api.ErrMany)
		}
	}
	// on both sides: a's error comes first
	for _, l := range wrong {
		wantCompareRefused(t, l, l, api.ErrSpan)
		for _, m := range many {
			wantCompareRefused(t, l, m, api.ErrSpan)
			wantCompareRefused(t, m, l, api.ErrMany)
		}
	}
}

func TestCompareAtMostPlaces(t *testing.T) {
	half := most / 2
	wantCompare(t, list(0, half), list(half, half), ins(half, half), ins(0, half))
	wantCompare(t, list(0, most), list(9, most-9), nil, ins(0, 9))
	wantCompare(t, list(0, most), list(0, most), nil, nil)
	wantCompare(t, list(0, most-1), list(far, 1), ins(most-1, 1), ins(0, most-1))
	wantCompare(t, list(1, most-1), list(0, most), ins(0, 1), nil)
	wantBothExpanded(t, list(0, half, 100, half-1), list(half-3, 4))
	for _, c := range [][2][]S{
		{list(0, most), list(most, 1)}, {list(0, most), list(-1, 1)}, {list(0, most), list(far, 1)}, {list(0, most), list(1, most)},
		{list(0, half), list(half, half+1)}, {list(0, half), list(half-1, half+2)}, {list(0, most), list(most, most)},
		{list(0, half, 1, half), list(half, 1)},
	} {
		wantCompareRefused(t, c[0], c[1], api.ErrMany)
		wantCompareRefused(t, c[1], c[0], api.ErrMany)
	}
}

func TestCompareAtMostSpans(t *testing.T) {
	n := api.MaxSpans
	full := row(0, n, 2)
	even, odd := row(0, n/2, 4), row(2, n/2, 4)
	// spans of both by turns, as many as there may be
	by := func(at, n int) []I {
		var l []I
		for i := range n {
			l = append(l, I{At: at + i, N: 1})
		}
		return l
	}
	wantCompare(t, of(even...), of(odd...), by(1, n/2), by(0, n/2))
	wantCompare(t, of(full...), of(odd...), nil, by(0, n/2))
	wantCompare(t, of(full...), of(full...), nil, nil)
	// one more: ahead, behind, and in a gap that is left wide
	for _, place := range []int{-2, 2 * n, far} {
		wantCompareRefused(t, of(full...), of(place), api.ErrMany)
		wantCompareRefused(t, of(place), of(full...), api.ErrMany)
	}
	wide := row(0, n, 4)
	wantCompareRefused(t, of(wide...), of(2), api.ErrMany)
	wantCompareRefused(t, of(even...), of(append(odd, 2*n)...), api.ErrMany)
	// places that touch a span make no further one
	wantCompare(t, of(wide...), of(1), ins(1, 1), ins(0, 1, 1, n-1))
	wantCompare(t, of(wide...), of(1, 2, 3), ins(1, 3), ins(0, 1, 3, n-1))
	wantCompare(t, of(full...), of(-1), ins(0, 1), ins(1, n))
	wantCompare(t, of(full...), of(2*n-1), ins(n, 1), ins(0, n))
	// as many spans as there may be, of the same places otherwise cut, have room left
	touching := spans(n, sp(0, 1))
	wantCompare(t, touching, of(n+5), ins(n, 1), ins(0, n))
}

func TestCompareOfAllFewPlaces(t *testing.T) {
	// Each list has any of seven places: all of both.
	some := func(bits int) []int {
		var places []int
		for p := range 7 {
			if bits>>p&1 == 1 {
				places = append(places, p-3)
			}
		}
		return places
	}
	for x := range 128 {
		for y := range 128 {
			a, b := some(x), some(y)
			all := either(a, b)
			if f, g, e := layout.Compare(of(a...), of(b...)); e != api.OK || !slices.Equal(f, modelInserts(a, all)) || !slices.Equal(g, modelInserts(b, all)) {
				t.Errorf("Compare(%v, %v): %v, %v, %d", a, b, f, g, e)
			}
			if got := layout.Covers(of(a...), of(b...)); got != (x&y == y) {
				t.Errorf("Covers(%v, %v): %v", a, b, got)
			}
		}
	}
}

// anySpans: some spans, few of which are far apart; some have no places.
func anySpans(random *rand.Rand) []S {
	var l []S
	for i := range random.Intn(6) {
		l = append(l, sp(random.Intn(4), random.Intn(5)))
		if i == 0 {
			l[i].Offset -= 3
		}
		if random.Intn(20) == 0 {
			l[i].Offset += 1000
		}
	}
	return l
}

func TestCompareAgainstTheModel(t *testing.T) {
	random := rand.New(rand.NewSource(8))
	for range 20000 {
		a, b := anySpans(random), anySpans(random)
		p, _ := span.Places(a)
		q, _ := span.Places(b)
		all := either(p, q)
		f, g, e := layout.Compare(a, b)
		if e != api.OK || !slices.Equal(f, modelInserts(p, all)) || !slices.Equal(g, modelInserts(q, all)) {
			t.Fatalf("Compare(%v, %v): %v, %v, %d", a, b, f, g, e)
		}
		wantBothExpanded(t, a, b)
	}
}

// P8.1: Many

func TestMany(t *testing.T) {
	for _, c := range []struct {
		l    []I
		want int
	}{
		{nil, 0}, {[]I{}, 0}, {ins(0, 1), 1}, {ins(7, 5), 5}, {ins(0, 1, 2, 2, 4, 1), 4}, {ins(0, most), most}, {ins(0, most-1, 1, 1), most},
		{slices.Repeat(ins(3, 2), 1000), 2000},
		// of what isn't right, all N together, too
		{ins(0, 0), 0}, {ins(-5, 3, -5, 4), 7}, {ins(0, most, 1, 1), most + 1}, {ins(0, -2, 1, 5), 3}, {ins(9, math.MaxInt), math.MaxInt}, {ins(9, math.MinInt, 0, math.MaxInt), -1},
	} {
		if got := layout.Many(c.l); got != c.want {
			t.Errorf("Many(%s): %d; want %d", text(c.l), got, c.want)
		}
	}
}

// P8.1: Covers

func TestCovers(t *testing.T) {
	for _, c := range []struct {
		a, b []S
		want bool
	}{
		{nil, nil, true},
		{[]S{}, nil, true},
		{list(5, 0), list(9, 0, 1, 0), true},
		{of(1), nil, true},
		{nil, of(1), false},
		{list(1, 0), of(1), false},
		{of(1), of(1), true},
		{of(1), of(2), false},
		// more and fewer: ahead, between, behind
		{of(1, 2, 3), of(1, 3), true},
		{of(1, 3), of(1, 2), false},
		{of(1, 3), of(1, 2, 3), false},
		{of(2, 3), of(1, 2, 3), false},
		{of(1, 2), of(1, 2, 3), false},
		{of(1, 2, 3), of(2, 3), true},
		{of(1, 2, 3), of(1, 2), true},
		{of(-far, 0, far), of(-far, far), true},
		{of(-far, far), of(0), false},
		// as many, but others
		{of(1, 2, 3), of(2, 3, 4), false},
		// otherwise cut
		{list(1, 3), list(1, 1, 0, 1, 0, 0, 0, 1), true},
		{list(1, 1, 0, 1, 0, 0, 0, 1), list(1, 3), true},
		{list(1, 1, 0, 1, 0, 0, 0, 1), list(1, 4), false},
		// at the limits: where the union is too great, a lacks what b has
		{list(0, most), list(5, most-9), true},
		{list(0, most), list(0, most), true},
		{list(0, most), of(most), false},
		{of(row(0, api.MaxSpans, 2)...), of(row(4, 99, 2)...), true},
		{of(row(0, api.MaxSpans, 2)...), of(-2), false},
		{of(row(0, api.MaxSpans, 2)...), of(1), false},
	} {
		if got := layout.Covers(c.a, c.b); got != c.want {
			t.Errorf("Covers(%s, %s): %v", text(c.a), text(c.b), got)
		}
		if !layout.Covers(c.a, c.a) || !layout.Covers(c.b, slices.Clone(c.b)) {
			t.Errorf("Covers(%s, %s): not of itself", text(c.a), text(c.b))
		}
	}
}

func TestCoversOfWrongLists(t *testing.T) {
	for _, wrong := range [][]S{
		list(0, -1), list(1, 1, -1, 1), list(1, 3, 0, -1), list(far+1, 0), list(-far-1, 1), list(far, 2), list(0, most+1), list(0, math.MinInt), list(math.MaxInt, math.MaxInt),
		spans(api.MaxSpans+1, S{}), spans(api.MaxSpans+1, sp(1, 1)),
	} {
		for _, right := range [][]S{nil, of(1, 2, 3), list(0, most)} {
			if layout.Covers(wrong, right) || layout.Covers(right, wrong) {
				t.Errorf("Covers: %s, %s", text(wrong), text(right))
			}
		}
		if layout.Covers(wrong, wrong) {
			t.Errorf("Covers(%s) of itself", text(wrong))
		}
	}
}

// P8.1: Right

func TestRight(t *testing.T) {
	for _, c := range []struct {
		l      []I
		values int
		want   bool
	}{
		// no inserts
		{nil, 0, true}, {[]I{}, 0, true}, {nil, 4, true},
		// At below 0, at 0, at the number of values, one beyond
		{ins(-1, 1), 4, false}, {ins(0, 1), 4, true}, {ins(3, 1), 4, true}, {ins(4, 1), 4, true}, {ins(5, 1), 4, false},
		{ins(-1, 1), 0, false}, {ins(0, 1), 0, true}, {ins(1, 1), 0, false},
		{ins(0, 1, 4, 1), 4, true}, {ins(0, 1, 5, 1), 4, false}, {ins(-1, 1, 4, 1), 4, false},
		{ins(math.MinInt, 1), 4, false}, {ins(math.MaxInt, 1), 4, false},
		// At that stands twice, and that falls
		{ins(1, 1, 1, 1), 4, false}, {ins(0, 1, 0, 1), 4, false}, {ins(4, 1, 4, 1), 4, false}, {ins(2, 1, 1, 1), 4, false},
		{ins(0, 1, 2, 1, 1, 1), 4, false}, {ins(0, 1, 2, 1, 2, 1), 4, false}, {ins(1, 1, 2, 1, 0, 1), 4, false}, {ins(4, 1, 0, 1), 4, false},
		{ins(0, 1, 1, 1, 2, 1, 3, 1, 4, 1), 4, true}, {ins(0, 2, 1, 3, 4, 9), 4, true},
		// N below 1, of 1, of MaxBuckets, of one more
		{ins(1, 0), 4, false}, {ins(1, -1), 4, false}, {ins(1, math.MinInt), 4, false}, {ins(1, 1), 4, true},
		{ins(1, most), 4, true}, {ins(1, most+1), 4, false}, {ins(1, math.MaxInt), 4, false},
		{ins(0, 1, 1, 0), 4, false}, {ins(0, 0, 1, 1), 4, false}, {ins(0, 1, 1, -1, 2, 1), 4, false},
		// all together
		{ins(0, most-1, 1, 1), 4, true}, {ins(0, most, 1, 1), 4, false}, {ins(0, 1, 1, most-1), 4, true}, {ins(0, 1, 1, most), 4, false},
		{ins(0, most/2, 2, most/2), 4, true}, {ins(0, most/2, 2, most/2+1), 4, false}, {ins(0, most/2, 2, most/2, 4, 1), 4, false},
		{ins(0, most, 1, most), 4, false}, {ins(0, most, 1, -1), 4, false}, {ins(0, most+1, 1, -1), 4, false},
		// sums that would go round
		{ins(0, math.MaxInt, 1, math.MaxInt, 2, 3), 4, false}, {ins(0, 1, 1, math.MaxInt), 4, false}, {ins(0, 1<<62, 1, 1<<62, 2, 1<<62, 3, 1<<62), 4, false},
		// more values than MaxBuckets
		{ins(0, 1, 2*most, 1), 2 * most, true}, {ins(0, 1, 2*most+1, 1), 2 * most, false},
		// a number of values below 0: there is no At from 0 to it
		{nil, -1, true}, {nil, math.MinInt, true}, {ins(0, 1), -1, false}, {ins(-1, 1), -1, false}, {ins(-1, 1), -5, false}, {ins(0, 1), math.MinInt, false},
		{ins(math.MinInt, 1), math.MinInt, false},
		// as great a one as there is, where the At behind the last would go round
		{nil, math.MaxInt, true}, {ins(math.MaxInt, 1), math.MaxInt, true}, {ins(0, 1, math.MaxInt-1, 1, math.MaxInt, 1), math.MaxInt, true},
		{ins(math.MaxInt, 1, 0, 1), math.MaxInt, false}, {ins(math.MaxInt, 1, math.MinInt, 1), math.MaxInt, false}, {ins(math.MaxInt, 1, math.MaxInt, 1), math.MaxInt, false},
	} {
		wantRight(t, c.l, c.values, c.want)
	}
}

func TestRightOfManyInserts(t *testing.T) {
	each := func(n, more int) []I {
		var l []I
		for at := range n {
			l = append(l, I{At: at, N: more})
		}
		return l
	}
	wantRight(t, each(most, 1), most, true)
	wantRight(t, each(most, 1), most-1, true)
	wantRight(t, each(most, 1), most-2, false)
	wantRight(t, each(most+1, 1), most, false)
	wantRight(t, each(most+1, 1), 3*most, false)
	wantRight(t, each(most/4, 4), most, true)
	wantRight(t, append(each(most/4, 4), I{At: most, N: 1}), most, false)
	wantRight(t, slices.Repeat(ins(0, 1), 100000), 3, false)
}

func TestAllFewInserts(t *testing.T) {
	// Lists of up to three inserts, of any small numbers, for up to three values.
	var each []I
	for at := -1; at <= 4; at++ {
		for n := range 4 {
			each = append(each, I{At: at, N: n - 1})
		}
	}
	lists := [][]I{nil}
	for _, x := range each {
		lists = append(lists, []I{x})
		for _, y := range each {
			lists = append(lists, []I{x, y})
			for _, z := range each {
				lists = append(lists, []I{x, y, z})
			}
		}
	}
	seen := map[string]int{}
	for _, l := range lists {
		for values := -1; values <= 3; values++ {
			right := modelRight(l, values)
			wantRight(t, l, values, right)
			seen[fmt.Sprint(right)]++
		}
	}
	if seen["true"] < 100 || seen["false"] < 1000 {
		t.Errorf("too few of a kind: %v", seen)
	}
}

// P8.2: Expand

func TestExpand(t *testing.T) {
	v := []string{"a", "b", "c"}
	for _, c := range []struct {
		values []string
		l      []I
		zero   string
		want   []string
	}{
		{v, ins(0, 1), "-", []string{"-", "a", "b", "c"}},
		{v, ins(1, 1), "-", []string{"a", "-", "b", "c"}},
		{v, ins(2, 1), "-", []string{"a", "b", "-", "c"}},
		{v, ins(3, 1), "-", []string{"a", "b", "c", "-"}},
		{v, ins(1, 3), "-", []string{"a", "-", "-", "-", "b", "c"}},
		{v, ins(0, 2, 3, 2), "", []string{"", "", "a", "b", "c", "", ""}},
		{v, ins(0, 1, 1, 2, 2, 1, 3, 2), "-", []string{"-", "a", "-", "-", "b", "-", "c", "-", "-"}},
		// a zero that is one of the values
		{v, ins(1, 1), "b", []string{"a", "b", "b", "c"}},
		// no values, and no inserts
		{nil, ins(0, 3), "x", []string{"x", "x", "x"}},
		{[]string{}, ins(0, 1), "", []string{""}},
		{nil, nil, "x", nil},
		{[]string{}, []I{}, "x", nil},
		{v, nil, "x", v},
		{v, []I{}, "", v},
		{v[:1], nil, "", v[:1]},
	} {
		wantExpand(t, c.values, c.l, c.zero, c.want)
	}
}

func TestExpandOfSeveralTypes(t *testing.T) {
	l := ins(0, 1, 1, 2, 2, 1)
	wantExpand(t, []int{5, 6}, l, 0, []int{0, 5, 0, 0, 6, 0})
	wantExpand(t, []int{5, 6}, l, -9, []int{-9, 5, -9, -9, 6, -9})
	wantExpand(t, []int64{bottom, top}, l, top, []int64{top, bottom, top, top, top, top})
	wantExpand(t, []uint64{math.MaxUint64, 0}, l, 1<<63, []uint64{1 << 63, math.MaxUint64, 1 << 63, 1 << 63, 0, 1 << 63})
	wantExpand(t, []byte{1, 2}, l, 255, []byte{255, 1, 255, 255, 2, 255})
	wantExpand(t, []bool{false, true}, l, true, []bool{true, false, true, true, true, true})
	wantExpand(t, []struct{}{{}, {}}, l, struct{}{}, make([]struct{}, 6))
	wantExpand(t, []any{"a", nil}, l, any(3), []any{3, "a", 3, 3, nil, 3})
	x, z := thing{"a", [2]int{1, 2}}, thing{"z", [2]int{0, 9}}
	wantExpand(t, []thing{x, {}}, l, z, []thing{z, x, z, z, {}, z})
	one, two := 1, 1
	wantExpand(t, []*int{&one, nil}, l, &two, []*int{&two, &one, &two, &two, nil, &two})
	wantExpand(t, [][2]string{{"a", "b"}, {}}, l, [2]string{"", "z"}, [][2]string{{"", "z"}, {"a", "b"}, {"", "z"}, {"", "z"}, {}, {"", "z"}})
}

func TestExpandOfFloatsAndLists(t *testing.T) {
	// Floats bit by bit: -0 isn't 0, and what isn't a number stays what it is.
	odd := math.Float64frombits(0x7ff8000000000123)
	got, e := layout.Expand([]float64{odd, 0}, ins(1, 1, 2, 1), math.Copysign(0, -1))
	var bits []uint64
	for _, v := range got {
		bits = append(bits, math.Float64bits(v))
	}
	if e != api.OK || !slices.Equal(bits, []uint64{0x7ff8000000000123, 1 << 63, 0, 1 << 63}) {
		t.Errorf("Expand: %x, %d", bits, e)
	}
	// What can't be compared is expanded, too.
	lists, e := layout.Expand([][]int{{1, 2}, nil}, ins(0, 1), []int{3})
	if e != api.OK || fmt.Sprint(lists) != "[[3] [1 2] []]" {
		t.Errorf("Expand: %v, %d", lists, e)
	}
	calls, e := layout.Expand([]func() int{func() int { return 1 }}, ins(0, 1, 1, 1), func() int { return 2 })
	if e != api.OK || len(calls) != 3 || calls[0]() != 2 || calls[1]() != 1 || calls[2]() != 2 {
		t.Errorf("Expand: %d calls, %d", len(calls), e)
	}
}

func TestExpandOfMany(t *testing.T) {
	// There is no limit of the values, nor of what they become.
	values := numbers(3 * most)
	wantExpand(t, values, ins(5, most), 0, slices.Concat(values[:5], make([]int, most), values[5:]))
	wantExpand(t, values, ins(0, most-1, 3*most, 1), 0, slices.Concat(make([]int, most-1), values, []int{0}))
	wantExpand(t, values, nil, 0, values)
	if got, e := layout.Expand(values, ins(3*most+1, 1), 0); e != api.ErrRange || len(got) != 0 {
		t.Errorf("Expand: %d values, %d", len(got), e)
	}
}

// P8.2: ExpandDeltas

func TestExpandDeltas(t *testing.T) {
	d := []int64{5, 2, -4} // of 5, 7, 3
	for _, c := range []struct {
		deltas []int64
		l      []I
		want   []int64
	}{
		{d, nil, d},
		{d, ins(0, 1), []int64{0, 5, 2, -4}},
		{d, ins(1, 1), []int64{5, -5, 7, -4}},
		{d, ins(2, 1), []int64{5, 2, -7, 3}},
		{d, ins(3, 1), []int64{5, 2, -4, -3}},
		{d, ins(0, 3), []int64{0, 0, 0, 5, 2, -4}},
		{d, ins(1, 3), []int64{5, -5, 0, 0, 7, -4}},
		{d, ins(3, 3), []int64{5, 2, -4, -3, 0, 0}},
		{d, ins(0, 1, 1, 2, 2, 1, 3, 2), []int64{0, 5, -5, 0, 7, -7, 3, -3, 0}},
		{nil, ins(0, 2), []int64{0, 0}},
		{[]int64{}, nil, nil},
		{nil, nil, nil},
		{[]int64{7}, ins(0, 1, 1, 1), []int64{0, 7, -7}},
		{[]int64{-7}, ins(1, 1), []int64{-7, 7}},
		{[]int64{0, 0}, ins(1, 2), []int64{0, 0, 0, 0}},
	} {
		wantDeltas(t, c.deltas, c.l, c.want)
	}
}

func TestExpandDeltasGoesRound(t *testing.T) {
	for _, c := range []struct {
		deltas []int64
		l      []I
		want   []int64
	}{
		// numbers at the ends: from the least one back to nought is one step beyond
		{[]int64{top}, ins(1, 1), []int64{top, -top}},
		{[]int64{bottom}, ins(1, 1), []int64{bottom, bottom}},
		{[]int64{bottom}, ins(0, 1, 1, 2), []int64{0, bottom, bottom, 0}},
		{[]int64{bottom, 1}, ins(1, 1), []int64{bottom, bottom, bottom + 1}},
		{[]int64{top, -1}, ins(1, 1, 2, 1), []int64{top, -top, top - 1, 1 - top}},
		// sums that go beyond: they come again at the other end
		{[]int64{top, 1}, nil, []int64{top, 1}},
		{[]int64{top, 1}, ins(1, 1), []int64{top, -top, bottom}},
		{[]int64{top, 1}, ins(2, 1), []int64{top, 1, bottom}},
		{[]int64{bottom, -1}, ins(1, 1), []int64{bottom, bottom, top}},
		{[]int64{bottom, -1}, ins(2, 1), []int64{bottom, -1, -top}},
		{[]int64{top, top}, ins(0, 1, 1, 1, 2, 1), []int64{0, top, -top, -2, 2}},
		{[]int64{bottom, bottom}, ins(0, 1, 1, 1, 2, 1), []int64{0, bottom, bottom, 0, 0}},
		{[]int64{top, top, top, top}, ins(3, 2, 4, 1), []int64{top, top, top, 2 - top, 0, -4, 4}},
		{[]int64{1 << 62, 1 << 62, 1 << 62, 1 << 62}, ins(2, 1, 4, 1), []int64{1 << 62, 1 << 62, bottom, -1 << 62, 1 << 62, 0}},
	} {
		wantDeltas(t, c.deltas, c.l, c.want)
		wantDeltas(t, c.deltas, c.l, modelDeltas(c.deltas, c.l))
	}
}

// anyCount: small, or near an end or a half of the numbers.
func anyCount(random *rand.Rand) int64 {
	near := int64(random.Intn(7) - 3)
	switch random.Intn(6) {
	case 0:
		return top + near // wraps round, which is as good a number as any
	case 1:
		return bottom + near
	case 2:
		return []int64{1 << 62, -1 << 62}[random.Intn(2)] + near
	case 3:
		return int64(random.Uint64())
	}
	return near
}

// anyInserts: mostly right ones.
func anyInserts(random *rand.Rand, values int) []I {
	var l []I
	for at := range values + 1 {
		if random.Intn(2) == 0 {
			l = append(l, I{At: at, N: 1 + random.Intn(3)})
		}
	}
	if len(l) > 0 && random.Intn(5) == 0 {
		l[random.Intn(len(l))] = I{At: random.Intn(values+4) - 1, N: random.Intn(4)}
	}
	return l
}

func TestExpandAgainstTheModel(t *testing.T) {
	random := rand.New(rand.NewSource(9))
	seen := map[api.Errno]int{}
	for range 50000 {
		deltas := make([]int64, random.Intn(7))
		for i := range deltas {
			deltas[i] = anyCount(random)
		}
		l := anyInserts(random, len(deltas))
		if !modelRight(l, len(deltas)) {
			wantRight(t, l, len(deltas), false)
			seen[api.ErrRange]++
			continue
		}
		seen[api.OK]++
		wantExpand(t, deltas, l, 77, modelExpand(deltas, l, 77))
		wantDeltas(t, deltas, l, modelDeltas(deltas, l))
	}
	if seen[api.OK] < 5000 || seen[api.ErrRange] < 1000 {
		t.Errorf("too few of a kind: %v", seen)
	}
}

func TestExpandDeltasIsExpandOfTheSums(t *testing.T) {
	// Where nothing goes round, by layer 7's own calls.
	random := rand.New(rand.NewSource(10))
	for range 5000 {
		values := make([]int64, random.Intn(9))
		for i := range values {
			values[i] = random.Int63n(1<<40) - 1<<39
		}
		l := anyInserts(random, len(values))
		deltas, _ := pairs.Deltas(values)
		more, e := layout.Expand(values, l, 0)
		want, _ := pairs.Deltas(more)
		if got, f := layout.ExpandDeltas(deltas, l); f != e || !slices.Equal(got, want) {
			t.Fatalf("ExpandDeltas(%v, %v): %v, %d; want %v, %d", deltas, l, got, f, want, e)
		}
	}
}

// The rules on memory

// kept: a list with spare room, and what all of it was.
type kept[T comparable] struct{ whole, was []T }

func keep[T comparable](l ...T) kept[T] { return kept[T]{l, slices.Clone(l)} }

func (k kept[T]) changed() bool { return !slices.Equal(k.whole, k.was) }

func TestNothingHandedInIsChanged(t *testing.T) {
	a := keep(list(3, 2, 0, 0, 1, 1, 7, 7, 8, 8, 9, 9)...)
	b := keep(list(1, 3, 5, 1, 7, 7, 8, 8, 9, 9)...)
	l := keep(ins(0, 1, 2, 2, 3, 1, 7, 7, 8, 8, 9, 9)...)
	texts := keep("a", "b", "c", "x", "y", "z", "x", "y", "z")
	deltas := keep[int64](5, top, bottom, 9, 8, 7, 9, 8, 7)
	compare := func() {
		layout.Compare(a.whole[:3], b.whole[:2])
		layout.Compare(b.whole[:2], a.whole[:3])
		layout.Compare(a.whole[:3], a.whole[:3])
		layout.Compare(a.whole[:0], b.whole[:2])
		layout.Compare(a.whole, b.whole)
		layout.Covers(a.whole[:3], b.whole[:2])
		layout.Covers(b.whole[:2], b.whole[:1])
	}
	expand := func() {
		for n := range 7 {
			layout.Many(l.whole[:n])
			layout.Right(l.whole[:n], 3)
			for values := range 4 {
				layout.Expand(texts.whole[:values], l.whole[:n], "-")
				layout.ExpandDeltas(deltas.whole[:values], l.whole[:n])
			}
		}
	}
	for _, call := range []func(){compare, expand} {
		call()
		if a.changed() || b.changed() || l.changed() || texts.changed() || deltas.changed() {
			t.Fatalf("%v, %v, %v, %v, %v", a.whole, b.whole, l.whole, texts.whole, deltas.whole)
		}
	}
}

// spoil: all that a list has room for is other than it was.
func spoil[T any](l []T, v T) {
	l = l[:cap(l)]
	for i := range l {
		l[i] = v
	}
}

// wantOwnMemory: what one answer has room for is neither another one's nor what was handed in.
func wantOwnMemory[T comparable](t *testing.T, name string, in []T, want []T, answers ...[]T) {
	t.Helper()
	was := slices.Clone(in[:cap(in)])
	for i, l := range answers {
		if !slices.Equal(l, want) {
			t.Errorf("%s %d: %v; want %v", name, i, l, want)
		}
		var zero T
		spoil(l, zero)
	}
	if !slices.Equal(in[:cap(in)], was) {
		t.Errorf("%s: the answer is in what was handed in", name)
	}
}

// roomy: a list whose spare room is filled, so that an answer that lies in it would be seen.
func roomy[T any](spare T, l ...T) []T {
	whole := append(slices.Clone(l), spare, spare, spare, spare, spare, spare)
	return whole[:len(l)]
}

func TestExpandedIsNewMemory(t *testing.T) {
	for _, c := range []struct {
		values []string
		l      []I
	}{
		{nil, nil}, {[]string{"a"}, nil}, {[]string{"a", "b"}, nil}, {nil, ins(0, 2)},
		{[]string{"a", "b"}, ins(0, 1)}, {[]string{"a", "b"}, ins(1, 2)}, {[]string{"a", "b"}, ins(2, 1)}, {[]string{"a", "b"}, ins(0, 1, 2, 1)},
	} {
		in := roomy("spare", c.values...)
		want := modelExpand(c.values, c.l, "-")
		first, _ := layout.Expand(in, c.l, "-")
		second, _ := layout.Expand(in, c.l, "-")
		wantOwnMemory(t, "Expand", in, want, first, second)
		third, _ := layout.Expand(in, c.l, "-")
		spoil(in, "no")
		wantOwnMemory(t, "Expand", in, want, third)
		deltas := roomy(66, make([]int64, len(c.values))...)
		for i := range deltas {
			deltas[i] = int64(i + 3)
		}
		sums := modelDeltas(deltas, c.l)
		one, _ := layout.ExpandDeltas(deltas, c.l)
		two, _ := layout.ExpandDeltas(deltas, c.l)
		wantOwnMemory(t, "ExpandDeltas", deltas, sums, one, two)
		three, _ := layout.ExpandDeltas(deltas, c.l)
		spoil(deltas, 55)
		wantOwnMemory(t, "ExpandDeltas", deltas, sums, three)
	}
}

func TestComparedIsNewMemory(t *testing.T) {
	for _, c := range [][2][]S{
		{of(1, 3, 5), of(2, 4, 6)}, {of(1), of(2)}, {nil, of(2)}, {of(1, 2), of(1, 2)}, {of(row(0, 60, 4)...), of(row(2, 60, 4)...)},
	} {
		a, b := roomy(sp(7, 7), c[0]...), roomy(sp(7, 7), c[1]...)
		forward, backward, _ := layout.Compare(a, b)
		f, g, _ := layout.Compare(a, b)
		wantForward, wantBackward := slices.Clone(forward), slices.Clone(backward)
		spoil(a, sp(66, 66))
		spoil(b, sp(66, 66))
		none := []I{}
		wantOwnMemory(t, "forward", none, wantForward, forward)
		wantOwnMemory(t, "backward", none, wantBackward, backward)
		wantOwnMemory(t, "backward", none, wantBackward, g)
		wantOwnMemory(t, "forward", none, wantForward, f)
	}
}
