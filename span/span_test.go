package span_test

import (
	"fmt"
	"math"
	"math/big"
	"math/rand"
	"slices"
	"testing"

	"tidepole/api"
	"tidepole/span"
)

const far = api.MaxOffset

// S: a span, and List: some of them, as the chapter writes them.
type S = span.Span

type List = []span.Span

// within: is a number from one to another one?
func within(v *big.Int, least, most int) bool {
	return v.Cmp(big.NewInt(int64(least))) >= 0 && v.Cmp(big.NewInt(int64(most))) <= 0
}

// modelPlaces: what the chapter's words say of a list, in numbers of any size: a wrong one's sums mustn't wrap round.
func modelPlaces(l List) ([]int, api.Errno) {
	if len(l) > api.MaxSpans {
		return nil, api.ErrMany
	}
	var places []int
	end := big.NewInt(0)
	for i, s := range l {
		offset, length := big.NewInt(int64(s.Offset)), big.NewInt(int64(s.Len))
		begin := new(big.Int).Add(end, offset)
		end = new(big.Int).Add(begin, length)
		last := new(big.Int).Sub(end, big.NewInt(1))
		switch {
		case i == 0 && !within(offset, -far, far):
			return nil, api.ErrSpan
		case i > 0 && !within(offset, 0, 2*far):
			return nil, api.ErrSpan
		case !within(length, 0, api.MaxBuckets) || !within(begin, -far, far):
			return nil, api.ErrSpan
		case s.Len > 0 && !within(last, -far, far):
			return nil, api.ErrSpan
		}
		for k := range s.Len {
			places = append(places, int(begin.Int64())+k)
		}
		if len(places) > api.MaxBuckets {
			return nil, api.ErrSpan
		}
	}
	return places, api.OK
}

// modelCanonical: is it so, by the chapter's words?
func modelCanonical(l List) bool {
	if _, e := modelPlaces(l); e != api.OK {
		return false
	}
	return !slices.ContainsFunc(l, func(s S) bool { return s.Len <= 0 }) &&
		(len(l) == 0 || !slices.ContainsFunc(l[1:], func(s S) bool { return s.Offset <= 0 }))
}

// modelFrom: the canonical list of places: a place begins a span, if the one ahead isn't taken.
func modelFrom(places []int) (List, api.Errno) {
	for i, p := range places {
		if p < -far || p > far || i > 0 && places[i-1] >= p {
			return nil, api.ErrRange
		}
	}
	if len(places) > api.MaxBuckets {
		return nil, api.ErrMany
	}
	var l List
	for i, p := range places {
		switch {
		case i == 0:
			l = append(l, S{p, 1})
		case p == places[i-1]+1:
			l[len(l)-1].Len++
		default:
			l = append(l, S{p - places[i-1] - 1, 1})
		}
	}
	if len(l) > api.MaxSpans {
		return nil, api.ErrMany
	}
	return l, api.OK
}

// modelUnion: From of the places that either has.
func modelUnion(a, b List) (List, api.Errno) {
	p, e := modelPlaces(a)
	if e != api.OK {
		return nil, e
	}
	q, e := modelPlaces(b)
	if e != api.OK {
		return nil, e
	}
	taken := map[int]int{}
	for _, x := range append(p, q...) {
		taken[x] = 1
	}
	var all []int
	for x := range taken {
		all = append(all, x)
	}
	slices.Sort(all)
	return modelFrom(all)
}

// text: a list, cut short for the eye.
func text(l List) string {
	if len(l) <= 12 {
		return fmt.Sprint(l)
	}
	return fmt.Sprintf("%v.. (%d spans)", l[:4], len(l))
}

// row: n places, each so far behind the one ahead.
func row(first, n, step int) []int {
	var places []int
	for i := range n {
		places = append(places, first+i*step)
	}
	return places
}

// spans: n spans, all alike.
func spans(n int, s S) List { return slices.Repeat(List{s}, n) }

// with: a list with another span at a number.
func with(l List, at int, s S) List {
	l = slices.Clone(l)
	l[at] = s
	return l
}

// all: what a loop over a list is told.
func all(l List) (numbers, places []int) {
	for n, p := range span.All(l) {
		numbers, places = append(numbers, n), append(places, p)
	}
	return numbers, places
}

// near: the places at the ends of runs, those beside them, and some that are far off or no places at all.
func near(places []int) []int {
	asked := []int{math.MinInt, math.MinInt32, -far - 1, -far, -1, 0, 1, far, far + 1, math.MaxInt32, math.MaxInt}
	for i, p := range places {
		if i < 20 || i+20 > len(places) {
			asked = append(asked, p-1, p, p+1)
		}
	}
	return asked
}

// wantPlaces: a list is right and has these places, so all calls of P6.1 tell.
func wantPlaces(t *testing.T, l List, want []int) {
	t.Helper()
	if e := span.Check(l); e != api.OK {
		t.Errorf("Check(%s): %d", text(l), e)
	}
	if n := span.Count(l); n != len(want) {
		t.Errorf("Count(%s): %d; want %d", text(l), n, len(want))
	}
	if got, e := span.Places(l); e != api.OK || !slices.Equal(got, want) {
		t.Errorf("Places(%s): %v, %d; want %v", text(l), got, e, want)
	}
	numbers, places := all(l)
	if !slices.Equal(numbers, row(0, len(want), 1)) || !slices.Equal(places, want) {
		t.Errorf("All(%s): %v, %v; want %v", text(l), numbers, places, want)
	}
	for _, p := range near(want) {
		if got := span.Has(l, p); got != slices.Contains(want, p) {
			t.Errorf("Has(%s, %d): %v", text(l), p, got)
		}
	}
	if got := span.Canonical(l); got != modelCanonical(l) {
		t.Errorf("Canonical(%s): %v", text(l), got)
	}
}

// wantWrong: a list isn't right, and every call tells so.
func wantWrong(t *testing.T, l List, want api.Errno) {
	t.Helper()
	if e := span.Check(l); e != want {
		t.Errorf("Check(%s): %d; want %d", text(l), e, want)
	}
	if span.Canonical(l) || span.Count(l) != 0 {
		t.Errorf("Canonical, Count(%s): %v, %d", text(l), span.Canonical(l), span.Count(l))
	}
	if got, e := span.Places(l); len(got) != 0 || e != want {
		t.Errorf("Places(%s): %v, %d; want %d", text(l), got, e, want)
	}
	if numbers, places := all(l); numbers != nil || places != nil {
		t.Errorf("All(%s): %v, %v", text(l), numbers, places)
	}
	var begins []int
	if len(l) > 0 {
		begins = row(l[0].Offset, 3, 1)
	}
	for _, p := range near(begins) {
		if span.Has(l, p) {
			t.Errorf("Has(%s, %d)", text(l), p)
		}
	}
	wantRefused(t, l, want)
}

// wantRefused: the calls of P6.2 refuse a wrong list, with nothing beside the error.
func wantRefused(t *testing.T, l List, want api.Errno) {
	t.Helper()
	if got, e := span.Canon(l); len(got) != 0 || e != want {
		t.Errorf("Canon(%s): %v, %d; want %d", text(l), got, e, want)
	}
	for _, other := range []List{nil, {{3, 2}, {1, 1}}} {
		if got, e := span.Union(l, other); len(got) != 0 || e != want {
			t.Errorf("Union(%s, %v): %v, %d; want %d", text(l), other, got, e, want)
		}
		if got, e := span.Union(other, l); len(got) != 0 || e != want {
			t.Errorf("Union(%v, %s): %v, %d; want %d", other, text(l), got, e, want)
		}
		if span.Equal(l, other) || span.Equal(other, l) {
			t.Errorf("Equal(%s, %v)", text(l), other)
		}
	}
	if span.Equal(l, l) || span.Equal(l, slices.Clone(l)) {
		t.Errorf("Equal(%s) with itself", text(l))
	}
}

// wantFrom: places have this canonical list.
func wantFrom(t *testing.T, places []int, want List) {
	t.Helper()
	got, e := span.From(places)
	if e != api.OK || !slices.Equal(got, want) {
		t.Errorf("From of %d places: %s, %d; want %s", len(places), text(got), e, text(want))
	}
	if !span.Canonical(got) {
		t.Errorf("From of %d places: %s isn't canonical", len(places), text(got))
	}
	wantPlaces(t, got, places)
}

func wantFromRefused(t *testing.T, places []int, want api.Errno) {
	t.Helper()
	if got, e := span.From(places); len(got) != 0 || e != want {
		t.Errorf("From of %d places: %s, %d; want %d", len(places), text(got), e, want)
	}
}

// wantUnion: of both, either way round.
func wantUnion(t *testing.T, a, b, want List) {
	t.Helper()
	for range 2 {
		if got, e := span.Union(a, b); e != api.OK || !slices.Equal(got, want) || !span.Canonical(got) {
			t.Errorf("Union(%s, %s): %s, %d; want %s", text(a), text(b), text(got), e, text(want))
		}
		a, b = b, a
	}
}

func wantUnionRefused(t *testing.T, a, b List, want api.Errno) {
	t.Helper()
	if got, e := span.Union(a, b); len(got) != 0 || e != want {
		t.Errorf("Union(%s, %s): %s, %d; want %d", text(a), text(b), text(got), e, want)
	}
}

// P6.1

func TestPlacesOfTheChapter(t *testing.T) {
	l := List{{3, 2}, {1, 1}}
	wantPlaces(t, l, []int{3, 4, 6})
	if !span.Canonical(l) {
		t.Error("not canonical")
	}
}

func TestNoSpans(t *testing.T) {
	for _, l := range []List{nil, {}, make(List, 0, 4)} {
		wantPlaces(t, l, nil)
		if !span.Canonical(l) {
			t.Error("no spans: not canonical")
		}
	}
}

func TestRightLists(t *testing.T) {
	for _, c := range []struct {
		l      List
		places []int
	}{
		{List{{0, 1}}, []int{0}},
		{List{{5, 3}}, []int{5, 6, 7}},
		{List{{-2, 4}}, []int{-2, -1, 0, 1}},
		{List{{-3, 1}, {1, 2}, {4, 1}}, []int{-3, -1, 0, 5}},
		// the first Offset at either limit
		{List{{-far, 1}}, []int{-far}},
		{List{{-far, 0}}, nil},
		{List{{far, 1}}, []int{far}},
		{List{{far, 0}}, nil},
		// a further one's at 0 and at 2 MaxOffset
		{List{{1, 1}, {0, 1}}, []int{1, 2}},
		{List{{-far, 0}, {2 * far, 1}}, []int{far}},
		{List{{-far, 0}, {2 * far, 0}}, nil},
		{List{{-far, 1}, {2*far - 1, 1}}, []int{-far, far}},
		{List{{-far, 1}, {2*far - 1, 0}}, []int{-far}},
		{List{{-far, 2}, {2*far - 3, 2}}, []int{-far, -far + 1, far - 1, far}},
		// spans without places first, between, last, and nothing else
		{List{{7, 0}, {0, 1}}, []int{7}},
		{List{{7, 0}, {2, 1}}, []int{9}},
		{List{{7, 1}, {1, 0}, {1, 1}}, []int{7, 10}},
		{List{{7, 1}, {0, 0}, {0, 1}}, []int{7, 8}},
		{List{{7, 2}, {0, 0}}, []int{7, 8}},
		{List{{7, 2}, {3, 0}}, []int{7, 8}},
		{List{{7, 0}}, nil},
		{List{{-7, 0}, {0, 0}, {3, 0}, {3, 0}}, nil},
		{List{{-1, 0}, {1, 0}, {1, 1}, {0, 0}, {1, 0}, {1, 2}, {0, 0}, {9, 0}}, []int{1, 4, 5}},
		// spans that touch
		{List{{-3, 2}, {0, 1}, {2, 0}, {1, 1}}, []int{-3, -2, -1, 3}},
		{List{{0, 1}, {0, 1}, {0, 1}, {0, 2}}, []int{0, 1, 2, 3, 4}},
		// up to the far end, and a span without places there
		{List{{far - 2, 3}}, []int{far - 2, far - 1, far}},
		{List{{far - 2, 2}, {0, 1}}, []int{far - 2, far - 1, far}},
		{List{{far - 2, 2}, {0, 0}}, []int{far - 2, far - 1}},
		{List{{far - 2, 1}, {1, 0}, {0, 0}}, []int{far - 2}},
		{List{{far - 2, 1}, {1, 0}, {0, 1}}, []int{far - 2, far}},
		// as many places as there may be
		{List{{0, api.MaxBuckets}}, row(0, api.MaxBuckets, 1)},
		{List{{-far, api.MaxBuckets}}, row(-far, api.MaxBuckets, 1)},
		{List{{far + 1 - api.MaxBuckets, api.MaxBuckets}}, row(far+1-api.MaxBuckets, api.MaxBuckets, 1)},
		{List{{0, api.MaxBuckets - 1}, {0, 1}}, row(0, api.MaxBuckets, 1)},
		{List{{0, api.MaxBuckets}, {0, 0}, {5, 0}}, row(0, api.MaxBuckets, 1)},
		{List{{3, 0}, {0, api.MaxBuckets / 2}, {0, api.MaxBuckets / 2}}, row(3, api.MaxBuckets, 1)},
		// as many spans
		{spans(api.MaxSpans, S{}), nil},
		{spans(api.MaxSpans, S{1, 1}), row(1, api.MaxSpans, 2)},
		{spans(api.MaxSpans, S{0, 4}), row(0, api.MaxBuckets, 1)},
	} {
		wantPlaces(t, c.l, c.places)
	}
}

// wrongSpans: as a first one, and as one behind another one that has the place -far.
func wrongSpans() (first, further []S) {
	first = []S{
		{-far - 1, 0}, {-far - 1, 1}, {-far - 1, 2}, {far + 1, 0}, {far + 1, 1}, {far, 2}, {far - 1, 3},
		{far - api.MaxBuckets + 2, api.MaxBuckets},
		{2 * far, 0}, {math.MinInt, 0}, {math.MinInt, 1}, {math.MaxInt, 0}, {math.MaxInt, 1},
	}
	further = []S{
		{-1, 0}, {-1, 1}, {-1, 2}, {2 * far, 0}, {2 * far, 1}, {2*far + 1, 0}, {2*far + 1, 1}, {2*far - 1, 2}, {2*far - 2, 3},
		{-far, 1}, {math.MinInt, 1}, {math.MaxInt, 1}, {math.MaxInt - 1, 0},
	}
	either := []S{
		{0, -1}, {1, -1}, {far, -1}, {0, api.MaxBuckets + 1}, {1, math.MaxInt}, {1, math.MinInt}, {far, math.MaxInt},
		{math.MaxInt, math.MaxInt}, {math.MinInt, math.MinInt}, {math.MaxInt, math.MinInt}, {math.MinInt, math.MaxInt},
	}
	return append(first, either...), append(further, either...)
}

func TestWrongLists(t *testing.T) {
	first, further := wrongSpans()
	for _, s := range first {
		wantWrong(t, List{s}, api.ErrSpan)
		wantWrong(t, List{s, {1, 1}}, api.ErrSpan)
	}
	for _, s := range further {
		wantWrong(t, List{{-far, 1}, s}, api.ErrSpan)
		wantWrong(t, List{{-far, 1}, s, {1, 1}}, api.ErrSpan)
		wantWrong(t, List{{-far, 0}, {0, 0}, {0, 1}, s}, api.ErrSpan)
	}
	for _, l := range []List{
		{{1, 1}, {-1, 1}},
		{{1, 5}, {-1, 5}},
		{{far, 1}, {0, 0}}, // would begin beyond the far end
		{{far, 0}, {1, 0}},
		{{far, 0}, {0, 2}},
		{{far, 0}, {0, 0}, {1, 0}},
		{{0, 0}, {far + 1, 0}},
		{{0, 1}, {far, 0}},
		{{0, 1}, {far, 1}},
		{{0, 1}, {far - 1, 2}},
		{{-far, 0}, {2*far + 1, 0}},
		{{-far, 0}, {2 * far, 0}, {1, 0}},
		{{-far, 0}, {2 * far, 2}},
		{{-far, 0}, {2 * far, 0}, {2 * far, 0}},
		{{0, api.MaxBuckets}, {0, 1}}, // one place more than there may be
		{{0, 1}, {0, api.MaxBuckets}},
		{{0, api.MaxBuckets - 1}, {1, 2}},
		{{0, api.MaxBuckets}, {0, api.MaxBuckets}},
		{{0, api.MaxBuckets}, {5, 0}, {0, 1}},
		// what is wrong is made good by nothing that comes behind it
		{{0, 5}, {0, -1}, {0, 1}},
		{{far, 3}, {0, -3}},
		{{math.MaxInt, 1}, {math.MaxInt, 1}, {3, 1}},
		{{1, math.MaxInt}, {1, math.MaxInt}, {1, 4}},
	} {
		wantWrong(t, l, api.ErrSpan)
	}
}

func TestManySpans(t *testing.T) {
	right := spans(api.MaxSpans, S{1, 1})
	wantPlaces(t, right, row(1, api.MaxSpans, 2))
	for _, at := range []int{0, 1, api.MaxSpans / 2, api.MaxSpans - 1} {
		wantWrong(t, with(right, at, S{1, -1}), api.ErrSpan)
		wantWrong(t, with(right, at, S{math.MaxInt, 1}), api.ErrSpan)
	}
	wantWrong(t, with(right, api.MaxSpans-1, S{far, 1}), api.ErrSpan)
	wantWrong(t, with(spans(api.MaxSpans, S{0, 4}), 9, S{0, 5}), api.ErrSpan)
	// One more: neither right spans nor wrong ones are looked at.
	for _, n := range []int{api.MaxSpans + 1, api.MaxSpans + 2, 3 * api.MaxSpans} {
		wantWrong(t, spans(n, S{}), api.ErrMany)
		wantWrong(t, spans(n, S{1, 1}), api.ErrMany)
		wantWrong(t, spans(n, S{1, -1}), api.ErrMany)
		wantWrong(t, with(spans(n, S{}), 0, S{-far - 1, 0}), api.ErrMany)
		wantWrong(t, with(spans(n, S{}), n-1, S{0, math.MinInt}), api.ErrMany)
		wantWrong(t, spans(n, S{math.MaxInt, math.MaxInt}), api.ErrMany)
	}
}

func TestCanonical(t *testing.T) {
	for _, l := range []List{
		nil, {{0, 1}}, {{0, 2}, {1, 1}}, {{-far, 1}, {2*far - 1, 1}}, {{far, 1}}, {{-3, 1}, {1, 1}, {1, 1}},
		{{0, api.MaxBuckets}}, spans(api.MaxSpans, S{1, 1}), with(spans(api.MaxSpans, S{1, 1}), 0, S{0, 1}),
	} {
		if !span.Canonical(l) {
			t.Errorf("Canonical(%s): false", text(l))
		}
	}
	for _, l := range []List{
		{{0, 0}}, {{4, 0}}, {{4, 0}, {1, 1}}, {{4, 1}, {1, 0}}, {{4, 1}, {1, 0}, {1, 1}},
		{{4, 1}, {0, 1}}, {{4, 1}, {1, 1}, {0, 1}}, {{0, 1}, {0, 1}}, {{4, 1}, {0, 0}},
		with(spans(api.MaxSpans, S{1, 1}), api.MaxSpans-1, S{0, 1}),
		with(spans(api.MaxSpans, S{1, 1}), api.MaxSpans-1, S{1, 0}),
		// wrong ones, each of whose numbers would do
		{{far, 2}}, {{far + 1, 1}}, {{0, api.MaxBuckets}, {1, 1}}, {{far, 1}, {1, 1}}, spans(api.MaxSpans+1, S{1, 1}),
		{{0, api.MaxBuckets + 1}}, {{-far, 1}, {2 * far, 1}},
	} {
		if span.Canonical(l) {
			t.Errorf("Canonical(%s): true", text(l))
		}
	}
}

func TestAllBrokenOff(t *testing.T) {
	l := List{{3, 0}, {0, 2}, {2, 3}, {0, 1}, {1, 0}, {1, 1}, {4, 0}}
	want := []int{3, 4, 7, 8, 9, 10, 13}
	wantPlaces(t, l, want)
	// At once, within each span, at each end, and behind all: what was asked for is told, nothing is behind it.
	for stop := 1; stop <= len(want)+1; stop++ {
		told := 0
		span.All(l)(func(n, place int) bool {
			if n != told || place != want[n] {
				t.Errorf("the bucket %d of %d: %d, %d", told, stop, n, place)
			}
			told++
			return told < stop
		})
		if told != min(stop, len(want)) {
			t.Errorf("broken off behind %d: %d told", stop, told)
		}
	}
	for range span.All(l) {
		break
	}
}

func TestAllTwice(t *testing.T) {
	seq := span.All(List{{3, 2}, {1, 1}})
	for range seq {
		break
	}
	for range 2 {
		var numbers, places []int
		for n, p := range seq {
			numbers, places = append(numbers, n), append(places, p)
		}
		if !slices.Equal(numbers, []int{0, 1, 2}) || !slices.Equal(places, []int{3, 4, 6}) {
			t.Errorf("%v, %v", numbers, places)
		}
	}
	// A loop within a loop over the same.
	told := 0
	for n, p := range seq {
		for m, q := range seq {
			if m == n && p != q {
				t.Errorf("the bucket %d: %d and %d", n, p, q)
			}
			told++
		}
	}
	if told != 9 {
		t.Errorf("%d told", told)
	}
}

func TestAllAsItIsWhenTheLoopRuns(t *testing.T) {
	l := List{{3, 2}, {1, 1}}
	seq := span.All(l)
	for _, c := range []struct {
		s    S
		want []int
	}{{S{3, 2}, []int{3, 4, 6}}, {S{-5, 1}, []int{-5, -3}}, {S{3, -1}, nil}, {S{3, 0}, []int{4}}} {
		l[0] = c.s
		var places []int
		for _, p := range seq {
			places = append(places, p)
		}
		if !slices.Equal(places, c.want) {
			t.Errorf("%v: %v; want %v", c.s, places, c.want)
		}
	}
}

func TestHas(t *testing.T) {
	l := List{{-4, 3}, {2, 1}, {0, 2}, {1, 0}, {3, 1}}
	taken := []int{-4, -3, -2, 1, 2, 3, 8}
	for p := -20; p < 20; p++ {
		if got := span.Has(l, p); got != slices.Contains(taken, p) {
			t.Errorf("Has(%d): %v", p, got)
		}
	}
	ends := List{{-far, 1}, {2*far - 1, 1}}
	for p, want := range map[int]bool{-far - 1: false, -far: true, -far + 1: false, far - 1: false, far: true, far + 1: false, math.MinInt: false, math.MaxInt: false} {
		if span.Has(ends, p) != want {
			t.Errorf("Has(%d): %v", p, !want)
		}
	}
	wide := List{{0, api.MaxBuckets}}
	for p := -2; p < api.MaxBuckets+2; p++ {
		if span.Has(wide, p) != (0 <= p && p < api.MaxBuckets) {
			t.Errorf("Has(%d)", p)
		}
	}
	// A wrong list has no places, not those either that stand ahead of what is wrong.
	for _, l := range []List{{{3, 2}, {0, -1}}, {{3, 2}, {-1, 1}}, spans(api.MaxSpans+1, S{1, 1})} {
		for p := range 9 {
			if span.Has(l, p) {
				t.Errorf("Has(%s, %d)", text(l), p)
			}
		}
	}
}

// P6.2

func TestFrom(t *testing.T) {
	for _, c := range []struct {
		places []int
		l      List
	}{
		{nil, nil},
		{[]int{}, nil},
		{[]int{0}, List{{0, 1}}},
		{[]int{3, 4, 6}, List{{3, 2}, {1, 1}}},
		{[]int{-1}, List{{-1, 1}}},
		{[]int{-1, 0, 1}, List{{-1, 3}}},
		{[]int{-5, -3, -2, 0, 7, 8}, List{{-5, 1}, {1, 2}, {1, 1}, {6, 2}}},
		{[]int{1, 2, 3, 4}, List{{1, 4}}},
		{[]int{-far}, List{{-far, 1}}},
		{[]int{far}, List{{far, 1}}},
		{[]int{-far, -far + 1, far - 1, far}, List{{-far, 2}, {2*far - 3, 2}}},
		{[]int{-far, far}, List{{-far, 1}, {2*far - 1, 1}}},
		{[]int{-far, 0, far}, List{{-far, 1}, {far - 1, 1}, {far - 1, 1}}},
		{row(5, api.MaxBuckets, 1), List{{5, api.MaxBuckets}}},
		{row(-far, api.MaxBuckets, 1), List{{-far, api.MaxBuckets}}},
		{row(far+1-api.MaxBuckets, api.MaxBuckets, 1), List{{far + 1 - api.MaxBuckets, api.MaxBuckets}}},
		{row(1, api.MaxSpans, 2), spans(api.MaxSpans, S{1, 1})},
		{row(-far, api.MaxSpans, 2048), with(spans(api.MaxSpans, S{2047, 1}), 0, S{-far, 1})},
	} {
		wantFrom(t, c.places, c.l)
	}
	// As many runs and as many places as there may be, at once.
	full := spans(api.MaxSpans, S{1, 4})
	places, _ := modelPlaces(full)
	wantFrom(t, places, full)
}

func TestFromWhatDoesNotRise(t *testing.T) {
	for _, places := range [][]int{
		{1, 1}, {2, 1}, {0, 1, 1}, {0, 2, 1}, {0, 0, 1}, {3, 2, 1}, {-1, -2}, {5, 6, 7, 5}, {far, far}, {-far, -far}, {far, -far},
		{1, 2, 3, 3}, {1, 3, 3, 5}, {0, 5, 4, 9},
		{far + 1}, {-far - 1}, {-far - 1, 0}, {0, far + 1}, {far, far + 1}, {-far - 1, -far}, {0, -far - 1}, {far + 1, 0},
		{math.MinInt}, {math.MaxInt}, {math.MinInt, math.MaxInt}, {math.MaxInt, math.MinInt}, {math.MaxInt, math.MaxInt}, {0, math.MaxInt, math.MinInt},
	} {
		wantFromRefused(t, places, api.ErrRange)
	}
}

func TestFromMany(t *testing.T) {
	wantFromRefused(t, row(0, api.MaxBuckets+1, 1), api.ErrMany)
	wantFromRefused(t, row(-far, 2*far+1, 1), api.ErrMany)
	wantFromRefused(t, row(0, api.MaxSpans+1, 2), api.ErrMany)
	wantFromRefused(t, row(-far, api.MaxSpans+1, 2048), api.ErrMany)
	wantFromRefused(t, row(0, api.MaxBuckets, 2), api.ErrMany)
	wantFromRefused(t, row(0, api.MaxBuckets+1, 2), api.ErrMany)
	// One run more, of which the last one or another one has several places.
	places, _ := modelPlaces(spans(api.MaxSpans, S{1, 3}))
	wantFrom(t, places, spans(api.MaxSpans, S{1, 3}))
	end := places[len(places)-1]
	wantFrom(t, append(slices.Clone(places), end+1), with(spans(api.MaxSpans, S{1, 3}), api.MaxSpans-1, S{1, 4}))
	wantFromRefused(t, append(slices.Clone(places), end+2), api.ErrMany)
	wantFromRefused(t, append(slices.Clone(places), end+2, end+3), api.ErrMany)
}

func TestFromRangeAheadOfMany(t *testing.T) {
	for _, many := range [][]int{row(0, api.MaxBuckets+1, 1), row(0, api.MaxSpans+1, 2), row(0, 2*api.MaxBuckets, 2)} {
		last := len(many) - 1
		for _, c := range []struct{ at, place int }{
			{last, many[last-1]}, {last, many[last-1] - 1}, {last, far + 1}, {last, math.MinInt}, {last, math.MaxInt},
			{0, -far - 1}, {0, many[1]}, {0, math.MaxInt}, {1, many[0]}, {last / 2, many[last/2-1]}, {last / 2, far + 1},
		} {
			places := slices.Clone(many)
			places[c.at] = c.place
			wantFromRefused(t, places, api.ErrRange)
		}
	}
}

func TestCanon(t *testing.T) {
	for _, c := range []struct{ l, want List }{
		{nil, nil},
		{List{{0, 0}}, nil},
		{List{{9, 0}, {1, 0}}, nil},
		{spans(api.MaxSpans, S{}), nil},
		{List{{3, 2}, {1, 1}}, List{{3, 2}, {1, 1}}},
		{List{{-3, 2}, {0, 1}, {2, 0}, {1, 1}}, List{{-3, 3}, {3, 1}}},
		{List{{5, 0}, {2, 1}}, List{{7, 1}}},
		{List{{-5, 0}, {2, 1}, {0, 0}, {0, 1}}, List{{-3, 2}}},
		{List{{5, 1}, {2, 0}}, List{{5, 1}}},
		{List{{5, 1}, {2, 0}, {3, 1}}, List{{5, 1}, {5, 1}}},
		{List{{-far, 0}, {2 * far, 1}}, List{{far, 1}}},
		{List{{-far, 1}, {far, 0}, {far - 1, 1}}, List{{-far, 1}, {2*far - 1, 1}}},
		{spans(api.MaxSpans, S{0, 4}), List{{0, api.MaxBuckets}}},
		{spans(api.MaxSpans, S{1, 1}), spans(api.MaxSpans, S{1, 1})},
		{spans(api.MaxSpans, S{1, 4}), spans(api.MaxSpans, S{1, 4})},
	} {
		got, e := span.Canon(c.l)
		if e != api.OK || !slices.Equal(got, c.want) || !span.Canonical(got) {
			t.Errorf("Canon(%s): %s, %d; want %s", text(c.l), text(got), e, text(c.want))
		}
		if !span.Equal(got, c.l) || !span.Equal(c.l, got) {
			t.Errorf("Canon(%s): %s has other places", text(c.l), text(got))
		}
		if again, e := span.Canon(got); e != api.OK || !slices.Equal(again, got) {
			t.Errorf("Canon(%s): %s, %d", text(got), text(again), e)
		}
	}
}

func TestUnion(t *testing.T) {
	l := List{{-3, 2}, {0, 1}, {2, 0}, {1, 1}} // -3 to -1, 3
	for _, c := range []struct{ a, b, want List }{
		{nil, nil, nil},
		{nil, List{{4, 0}}, nil},
		{l, nil, List{{-3, 3}, {3, 1}}},
		{l, List{{9, 0}, {1, 0}}, List{{-3, 3}, {3, 1}}},
		{l, l, List{{-3, 3}, {3, 1}}},
		{l, List{{-3, 3}, {3, 1}}, List{{-3, 3}, {3, 1}}},
		// apart
		{l, List{{10, 2}}, List{{-3, 3}, {3, 1}, {6, 2}}},
		{l, List{{-10, 2}}, List{{-10, 2}, {5, 3}, {3, 1}}},
		{l, List{{1, 1}}, List{{-3, 3}, {1, 1}, {1, 1}}},
		{List{{0, 1}, {1, 1}, {1, 1}}, List{{10, 1}, {1, 1}}, List{{0, 1}, {1, 1}, {1, 1}, {5, 1}, {1, 1}}},
		// that touch, at one side and at both
		{l, List{{0, 1}}, List{{-3, 4}, {2, 1}}},
		{l, List{{0, 3}}, List{{-3, 7}}},
		{l, List{{-4, 1}, {7, 1}}, List{{-4, 4}, {3, 2}}},
		{List{{0, 1}, {1, 1}, {1, 1}}, List{{1, 1}, {1, 1}}, List{{0, 5}}},
		// that overlap
		{l, List{{0, 2}, {1, 1}}, List{{-3, 5}, {1, 1}}},
		{List{{0, 4}}, List{{2, 4}}, List{{0, 6}}},
		{List{{0, 4}, {4, 4}}, List{{3, 6}}, List{{0, 12}}},
		// within
		{List{{0, 9}}, List{{3, 2}}, List{{0, 9}}},
		{List{{0, 9}}, List{{0, 1}, {7, 1}}, List{{0, 9}}},
		{List{{0, 9}, {2, 3}}, List{{12, 1}}, List{{0, 9}, {2, 3}}},
		// at the far ends
		{List{{-far, 1}}, List{{far, 1}}, List{{-far, 1}, {2*far - 1, 1}}},
		// as many places and runs as there may be
		{List{{0, api.MaxBuckets}}, List{{0, api.MaxBuckets}}, List{{0, api.MaxBuckets}}},
		{List{{0, api.MaxBuckets / 2}}, List{{api.MaxBuckets / 2, api.MaxBuckets / 2}}, List{{0, api.MaxBuckets}}},
		{List{{0, api.MaxBuckets}}, List{{api.MaxBuckets - 1, 1}}, List{{0, api.MaxBuckets}}},
		{spans(api.MaxSpans, S{1, 1}), spans(api.MaxSpans, S{1, 1}), spans(api.MaxSpans, S{1, 1})},
		{spans(api.MaxSpans/2, S{1, 1}), with(spans(api.MaxSpans/2, S{1, 1}), 0, S{api.MaxSpans + 1, 1}), spans(api.MaxSpans, S{1, 1})},
		// many runs that the other list joins
		{spans(api.MaxSpans, S{1, 1}), with(spans(api.MaxSpans, S{1, 1}), 0, S{0, 1}), List{{0, 2 * api.MaxSpans}}},
	} {
		wantUnion(t, c.a, c.b, c.want)
	}
}

func TestUnionOfTooMany(t *testing.T) {
	for _, c := range []struct{ a, b List }{
		{List{{0, api.MaxBuckets}}, List{{api.MaxBuckets, 1}}},
		{List{{0, api.MaxBuckets}}, List{{-1, 1}}},
		{List{{0, api.MaxBuckets}}, List{{100, api.MaxBuckets}}},
		{List{{0, api.MaxBuckets}}, List{{100000, api.MaxBuckets}}},
		{List{{0, api.MaxBuckets/2 + 1}}, List{{api.MaxBuckets/2 + 1, api.MaxBuckets / 2}}},
		{spans(api.MaxSpans, S{1, 1}), List{{2*api.MaxSpans + 1, 1}}},
		{spans(api.MaxSpans, S{1, 1}), List{{-1, 1}}},
		{spans(api.MaxSpans, S{3, 1}), with(spans(api.MaxSpans, S{3, 1}), 0, S{1, 1})},
		{spans(api.MaxSpans/2, S{1, 1}), with(spans(api.MaxSpans/2+1, S{1, 1}), 0, S{api.MaxSpans + 1, 1})},
	} {
		wantUnionRefused(t, c.a, c.b, api.ErrMany)
		wantUnionRefused(t, c.b, c.a, api.ErrMany)
	}
}

func TestUnionOfWrongLists(t *testing.T) {
	right, wrong, many := List{{3, 2}, {1, 1}}, List{{3, 2}, {-1, 1}}, spans(api.MaxSpans+1, S{1, 1})
	wantUnionRefused(t, wrong, right, api.ErrSpan)
	wantUnionRefused(t, right, wrong, api.ErrSpan)
	wantUnionRefused(t, many, right, api.ErrMany)
	wantUnionRefused(t, right, many, api.ErrMany)
	// Both: the first one's error.
	wantUnionRefused(t, wrong, many, api.ErrSpan)
	wantUnionRefused(t, many, wrong, api.ErrMany)
	wantUnionRefused(t, wrong, wrong, api.ErrSpan)
	wantUnionRefused(t, many, many, api.ErrMany)
	// Wrong ones come ahead of too many places.
	wide := List{{0, api.MaxBuckets}}
	wantUnionRefused(t, wide, List{{api.MaxBuckets, 1}, {1, -1}}, api.ErrSpan)
	wantUnionRefused(t, List{{api.MaxBuckets, 1}, {1, -1}}, wide, api.ErrSpan)
	// Of no spans too.
	wantUnionRefused(t, nil, wrong, api.ErrSpan)
	wantUnionRefused(t, wrong, nil, api.ErrSpan)
}

func TestEqual(t *testing.T) {
	alike := [][]List{
		{nil, {}, {{0, 0}}, {{9, 0}, {1, 0}}, {{far, 0}}, spans(api.MaxSpans, S{})},
		{{{3, 2}, {1, 1}}, {{3, 1}, {0, 1}, {1, 1}}, {{1, 0}, {2, 2}, {1, 1}, {5, 0}}, {{3, 2}, {0, 0}, {1, 0}, {0, 1}}},
		{{{3, 2}}, {{3, 2}, {1, 0}}},
		{{{3, 3}}},
		{{{3, 2}, {2, 1}}},
		{{{2, 2}, {1, 1}}},
		{{{3, 4}}},
		{{{6, 1}}},
		{{{0, api.MaxBuckets}}, spans(api.MaxSpans, S{0, 4})},
		{{{0, api.MaxBuckets - 1}}},
		{{{-far, 1}, {2*far - 1, 1}}, {{-far, 1}, {far, 0}, {far - 1, 1}}},
		{{{-far, 1}}},
		{{{far, 1}}},
	}
	for i, group := range alike {
		for j, other := range alike {
			for _, a := range group {
				for _, b := range other {
					if got := span.Equal(a, b); got != (i == j) {
						t.Errorf("Equal(%s, %s): %v", text(a), text(b), got)
					}
				}
			}
		}
	}
	// Wrong ones aren't even equal to themselves, nor to what has no places.
	for _, wrong := range []List{{{3, -1}}, {{3, 2}, {-1, 1}}, {{far + 1, 0}}, spans(api.MaxSpans+1, S{}), spans(api.MaxSpans+1, S{1, 1})} {
		for _, other := range []List{nil, wrong, slices.Clone(wrong), {{3, 2}}, {{3, -2}}} {
			if span.Equal(wrong, other) || span.Equal(other, wrong) {
				t.Errorf("Equal(%s, %s)", text(wrong), text(other))
			}
		}
	}
}

// P1 and the rules on memory

func TestNothingHandedInIsChanged(t *testing.T) {
	whole := List{{-3, 2}, {0, 1}, {2, 0}, {1, 1}, {7, 7}, {8, 8}}
	more := List{{0, 2}, {1, 1}, {9, 9}}
	row := []int{3, 4, 6, 7, 99, 98}
	keepWhole, keepMore, keepRow := slices.Clone(whole), slices.Clone(more), slices.Clone(row)
	l, other, places := whole[:4], more[:2], row[:4]
	span.Check(l)
	span.Canonical(l)
	span.Count(l)
	span.Places(l)
	all(l)
	span.From(places)
	span.Canon(l)
	span.Has(l, 3)
	span.Union(l, other)
	span.Union(other, l)
	span.Equal(l, other)
	span.From([]int{2, 1})
	if !slices.Equal(whole, keepWhole) || !slices.Equal(more, keepMore) || !slices.Equal(row, keepRow) {
		t.Errorf("%v, %v, %v", whole, more, row)
	}
}

// spoil: all that an answer has room for is other than it was.
func spoil[T any](l []T, v T) {
	l = l[:cap(l)]
	for i := range l {
		l[i] = v
	}
}

func TestWhatIsToldIsNewMemory(t *testing.T) {
	l, places := List{{3, 2}, {1, 1}}, []int{3, 4, 6}
	for range 2 {
		p, _ := span.Places(l)
		f, _ := span.From(places)
		c, _ := span.Canon(l)
		u, _ := span.Union(l, nil)
		v, _ := span.Union(nil, l)
		w, _ := span.Union(l, l)
		told := []List{f, c, u, v, w}
		spoil(p, 77)
		for i, x := range told {
			if !slices.Equal(x, List{{3, 2}, {1, 1}}) {
				t.Errorf("answer %d: %v", i, x)
			}
			spoil(x, S{77, 77})
		}
		if !slices.Equal(l, List{{3, 2}, {1, 1}}) || !slices.Equal(places, []int{3, 4, 6}) {
			t.Fatalf("handed in: %v, %v", l, places)
		}
	}
	// And what was told stays, whatever is done to what was handed in.
	f, _ := span.From(places)
	c, _ := span.Canon(l)
	u, _ := span.Union(l, l)
	p, _ := span.Places(l)
	spoil(places, 55)
	spoil(l, S{55, 55})
	for i, x := range []List{f, c, u} {
		if !slices.Equal(x, List{{3, 2}, {1, 1}}) {
			t.Errorf("answer %d: %v", i, x)
		}
	}
	if !slices.Equal(p, []int{3, 4, 6}) {
		t.Errorf("Places: %v", p)
	}
}

// Against the model

// anyNumber: mostly small, sometimes at a limit or at an end of int.
func anyNumber(random *rand.Rand) int {
	edges := []int{-far, far, 2 * far, api.MaxBuckets, api.MaxSpans, math.MinInt, math.MaxInt, 0}
	switch random.Intn(40) {
	case 0:
		e := edges[random.Intn(len(edges))]
		return e + random.Intn(5) - 2 // wraps round at the ends of int, which is as good a number as any
	case 1:
		return -random.Intn(4)
	}
	return random.Intn(4)
}

func anyList(random *rand.Rand) List {
	var l List
	for range random.Intn(8) {
		l = append(l, S{anyNumber(random), anyNumber(random)})
	}
	if len(l) > 0 && random.Intn(3) == 0 {
		l[0].Offset = []int{-far, far, far - 9, -5, -1}[random.Intn(5)] + random.Intn(3) - 1
	}
	return l
}

func TestListsAgainstTheModel(t *testing.T) {
	random := rand.New(rand.NewSource(1))
	seen := map[api.Errno]int{}
	for range 20000 {
		l := anyList(random)
		places, e := modelPlaces(l)
		seen[e]++
		if e != api.OK {
			wantWrong(t, l, e)
			continue
		}
		wantPlaces(t, l, places)
		want, _ := modelFrom(places)
		if got, e := span.Canon(l); e != api.OK || !slices.Equal(got, want) {
			t.Fatalf("Canon(%s): %v, %d; want %v", text(l), got, e, want)
		}
	}
	if seen[api.OK] < 1000 || seen[api.ErrSpan] < 1000 {
		t.Errorf("too few of a kind: %v", seen)
	}
}

func TestAllSmallLists(t *testing.T) {
	// All lists of up to three spans whose numbers are from -1 to 2.
	var some []S
	for offset := -1; offset <= 2; offset++ {
		for n := -1; n <= 2; n++ {
			some = append(some, S{offset, n})
		}
	}
	lists := []List{nil}
	for begin := 0; len(lists[begin]) < 3; begin++ {
		for _, s := range some {
			lists = append(lists, append(slices.Clone(lists[begin]), s))
		}
	}
	for _, l := range lists {
		places, e := modelPlaces(l)
		if e != api.OK {
			wantWrong(t, l, e)
			continue
		}
		wantPlaces(t, l, places)
	}
}

func TestPlacesAgainstTheModel(t *testing.T) {
	random := rand.New(rand.NewSource(2))
	for range 20000 {
		var places []int
		p := anyNumber(random)
		for range random.Intn(12) {
			places = append(places, p)
			p += 1 + anyNumber(random)
		}
		want, e := modelFrom(places)
		if e != api.OK {
			wantFromRefused(t, places, e)
			continue
		}
		wantFrom(t, places, want)
	}
}

func TestUnionAgainstTheModel(t *testing.T) {
	random := rand.New(rand.NewSource(3))
	for range 20000 {
		a, b := anyList(random), anyList(random)
		if random.Intn(4) == 0 {
			b = append(slices.Clone(a), S{random.Intn(3), random.Intn(3)})
		}
		want, e := modelUnion(a, b)
		if got, gotE := span.Union(a, b); gotE != e || !slices.Equal(got, want) {
			t.Fatalf("Union(%v, %v): %v, %d; want %v, %d", a, b, got, gotE, want, e)
		}
		p, e := modelPlaces(a)
		q, f := modelPlaces(b)
		alike := e == api.OK && f == api.OK && slices.Equal(p, q)
		if got := span.Equal(a, b); got != alike {
			t.Fatalf("Equal(%v, %v): %v", a, b, got)
		}
	}
}

func TestGreatListsAgainstTheModel(t *testing.T) {
	// Around the limits of places and spans, where random lists of few spans never come.
	random := rand.New(rand.NewSource(4))
	seen := map[api.Errno]int{}
	for range 150 {
		n := api.MaxSpans - 2 + random.Intn(4)
		a, b := make(List, n), make(List, random.Intn(api.MaxSpans))
		for i := range a {
			a[i] = S{random.Intn(3), 3 + random.Intn(3)}
		}
		for i := range b {
			b[i] = S{random.Intn(4), random.Intn(3)}
		}
		places, e := modelPlaces(a)
		seen[e]++
		if e == api.OK {
			wantPlaces(t, a, places)
		} else if got := span.Check(a); got != e {
			t.Errorf("Check: %d; want %d", got, e)
		}
		for _, l := range []List{b, a} {
			a := a[:min(len(a), 100+random.Intn(900))]
			want, e := modelUnion(a, l)
			if got, gotE := span.Union(a, l); gotE != e || !slices.Equal(got, want) {
				t.Errorf("Union of %d and %d spans: %d; want %d", len(a), len(l), gotE, e)
			}
		}
	}
	for _, e := range []api.Errno{api.OK, api.ErrSpan, api.ErrMany} {
		if seen[e] < 10 {
			t.Errorf("%d was told %d times", e, seen[e])
		}
	}
}
