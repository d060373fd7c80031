package fail_test

import (
	"errors"
	"fmt"
	"math"
	"strings"
	"testing"

	"tidepole/api"
	"tidepole/fail"
)

// listed: an error of another type, that can't be compared.
type listed []string

func (l listed) Error() string { return strings.Join(l, " ") }

// around: an error of another type, with one within it.
type around struct{ err error }

func (a around) Error() string { return "around" }
func (a around) Unwrap() error { return a.err }

// named: codes that api names.
var named = []api.Errno{
	api.ErrForm, api.ErrRange, api.ErrMany, api.ErrNone, api.ErrShort, api.ErrBig, api.ErrSpan, api.ErrSchema, api.ErrCount, api.ErrLayout,
	api.ErrTime, api.ErrVariant, api.ErrHint, api.ErrChecksum, api.ErrOverflow, api.ErrFull, api.ErrReset, api.ErrLine,
}

// unnamed: codes that api doesn't name.
var unnamed = []api.Errno{-1, 1, 9, 13, 15, 61, 1 << 40, math.MinInt, math.MaxInt}

// others: errors that aren't of the package and have none of its errors within them.
func others() []error {
	return []error{errors.New("x"), errors.New("closed"), errors.New(""), listed{"a", "b"}, listed(nil), around{}, around{errors.New("10")}}
}

func own(t *testing.T, err error) *fail.Error {
	t.Helper()
	e, ok := err.(*fail.Error)
	if !ok || e == nil {
		t.Fatalf("%v isn't an *Error", err)
	}
	return e
}

// wantErr: what the calls that go through a chain tell of err.
func wantErr(t *testing.T, err error, code api.Errno, depth int, closed bool, text string) {
	t.Helper()
	if fail.Code(err) != code || fail.Depth(err) != depth || fail.Closed(err) != closed || fail.Text(err) != text {
		t.Errorf("code %d, depth %d, closed %v, text %q; want %d, %d, %v, %q", fail.Code(err), fail.Depth(err), fail.Closed(err), fail.Text(err), code, depth, closed, text)
	}
}

func wantAt(t *testing.T, err error, place string, at int, ok bool) {
	t.Helper()
	if n, found := fail.At(err, place); n != at || found != ok {
		t.Errorf("At(%v, %q): %d, %v; want %d, %v", err, place, n, found, at, ok)
	}
}

// P2.1

func TestTextOfTheChapter(t *testing.T) {
	e := fail.Wrap(fail.New(10), "chunk", 3)
	if fail.Text(e) != "chunk 3: 10" || e.Error() != "chunk 3: 10" {
		t.Errorf("%q, %q", fail.Text(e), e.Error())
	}
}

func TestNewHasTheCodeAlone(t *testing.T) {
	if err := fail.New(api.OK); err != nil {
		t.Errorf("New(OK): %v", err)
	}
	for _, code := range append(unnamed, named...) {
		if e := own(t, fail.New(code)); *e != (fail.Error{Code: code}) {
			t.Errorf("New(%d): %+v", code, *e)
		}
		wantErr(t, fail.New(code), code, 1, false, fmt.Sprint(int(code)))
	}
}

func TestNewIsAnotherOneEachTime(t *testing.T) {
	a, b := own(t, fail.New(api.ErrForm)), own(t, fail.New(api.ErrForm))
	a.Place, a.At, a.Code = "a", 1, api.ErrBig
	if *b != (fail.Error{Code: api.ErrForm}) || *own(t, fail.New(api.ErrForm)) != *b {
		t.Errorf("%+v", *b)
	}
}

func TestWrapOfNilIsNil(t *testing.T) {
	for _, place := range []string{"", "chunk"} {
		if err := fail.Wrap(nil, place, 3); err != nil {
			t.Errorf("Wrap(nil, %q): %v", place, err)
		}
	}
	if err := fail.Wrap(fail.Wrap(fail.New(api.OK), "a", 1), "b", 2); err != nil {
		t.Errorf("Wrap of New(OK): %v", err)
	}
}

func TestWrapHasCodePlaceNumberAndError(t *testing.T) {
	inner := fail.New(api.ErrShort)
	for _, place := range []string{"", "chunk", "a: b 3", "\x00\xff\n"} {
		for _, at := range []int{0, 1, -1, math.MinInt, math.MaxInt} {
			if e := own(t, fail.Wrap(inner, place, at)); *e != (fail.Error{Code: api.ErrShort, Place: place, At: at, Err: inner}) {
				t.Errorf("Wrap(%q, %d): %+v", place, at, *e)
			}
		}
	}
	if *own(t, inner) != (fail.Error{Code: api.ErrShort}) {
		t.Errorf("what was wrapped is %+v", *own(t, inner))
	}
}

func TestWrapTakesTheOutermostCode(t *testing.T) {
	hand := &fail.Error{Code: api.ErrBig, Err: fail.New(api.ErrForm)}
	if e := own(t, fail.Wrap(around{hand}, "a", 1)); e.Code != api.ErrBig || e.Err != error(around{hand}) {
		t.Errorf("%+v", *e)
	}
	if e := own(t, fail.Wrap(&fail.Error{}, "a", 1)); e.Code != api.OK {
		t.Errorf("%+v", *e)
	}
}

func TestWrapOfOthersIsOfForm(t *testing.T) {
	for _, err := range append(others(), fail.ErrClosed) {
		e := own(t, fail.Wrap(err, "a", 1))
		if e.Code != api.ErrForm || e.Place != "a" || e.At != 1 || e.Err == nil || e.Err.Error() != err.Error() {
			t.Errorf("Wrap(%v): %+v", err, *e)
		}
	}
}

func TestUnwrapIsTheErrorWithin(t *testing.T) {
	inner := fail.New(api.ErrLine)
	mid := fail.Wrap(inner, "a", 1)
	if got := own(t, fail.Wrap(mid, "b", 2)).Unwrap(); got != mid {
		t.Errorf("the outer one has %v", got)
	}
	if got := own(t, mid).Unwrap(); got != inner {
		t.Errorf("the middle one has %v", got)
	}
	if got := own(t, inner).Unwrap(); got != nil {
		t.Errorf("the inner one has %v", got)
	}
	if got := own(t, fail.Wrap(fail.ErrClosed, "a", 1)).Unwrap(); got != fail.ErrClosed {
		t.Errorf("that of ErrClosed has %v", got)
	}
}

func TestErrorIsItsText(t *testing.T) {
	for _, err := range []error{
		fail.New(api.ErrLine), fail.Wrap(fail.New(-5), "a", -7), fail.Wrap(fail.ErrClosed, "", 3), fail.Wrap(errors.New("x"), "b", 0),
		&fail.Error{}, &fail.Error{Code: 3, Place: "p", At: 4, Err: around{fail.New(5)}},
	} {
		if err.Error() != fail.Text(err) || err.Error() == "" {
			t.Errorf("%q, %q", err.Error(), fail.Text(err))
		}
	}
}

func TestTextNamesPlacesFromTheOuterOneOn(t *testing.T) {
	err := fail.New(api.ErrReset)
	for i, place := range []string{"bucket", "sample", "", "chunk", "sample", "series"} {
		err = fail.Wrap(err, place, 3*i-4)
	}
	wantErr(t, err, api.ErrReset, 7, false, "series 11: sample 8: chunk 5: sample -1: bucket -4: 30")
}

func TestTextOfNumbers(t *testing.T) {
	for at, want := range map[int]string{
		0: "a 0: 12", 7: "a 7: 12", -1: "a -1: 12", 1234567: "a 1234567: 12",
		math.MinInt: "a -9223372036854775808: 12", math.MaxInt: "a 9223372036854775807: 12",
	} {
		if got := fail.Text(fail.Wrap(fail.New(api.ErrMany), "a", at)); got != want {
			t.Errorf("%q; want %q", got, want)
		}
	}
	for code, want := range map[api.Errno]string{-1: "-1", math.MinInt: "-9223372036854775808", math.MaxInt: "9223372036854775807"} {
		if got := fail.Text(fail.Wrap(fail.New(code), "", 5)); got != want {
			t.Errorf("%q; want %q", got, want)
		}
	}
}

func TestTextOfPlacesThatAreAnyBytes(t *testing.T) {
	for _, place := range []string{" ", ":", "%d", "a\xffb", "\x00", "é"} {
		if got := fail.Text(fail.Wrap(fail.New(api.ErrMany), place, 1)); got != place+" 1: 12" {
			t.Errorf("%q", got)
		}
	}
}

func TestTextEndsWithTheOutermostCode(t *testing.T) {
	// Made by hand: by Wrap all codes of a chain are one.
	e := &fail.Error{Code: 11, Place: "a", At: 1, Err: &fail.Error{Code: 22, Place: "b", At: 2, Err: &fail.Error{Code: 33}}}
	wantErr(t, e, 11, 3, false, "a 1: b 2: 11")
	wantErr(t, e.Err, 22, 2, false, "b 2: 22")
	wantErr(t, around{e}, 11, 3, false, "a 1: b 2: 11")
	wantErr(t, &fail.Error{}, api.OK, 1, false, "0")
	wantErr(t, &fail.Error{Place: "a", At: 4, Err: fail.New(5)}, api.OK, 2, false, "a 4: 0")
}

// P2.2 (and the texts of what it tells)

func TestNilHasNothing(t *testing.T) {
	wantErr(t, nil, api.OK, 0, false, "")
	wantAt(t, nil, "", 0, false)
	wantAt(t, nil, "chunk", 0, false)
}

func TestAtIsTheFirstOfThatPlace(t *testing.T) {
	e := fail.Wrap(fail.Wrap(fail.Wrap(fail.New(api.ErrShort), "sample", 5), "chunk", math.MinInt), "sample", math.MaxInt)
	wantAt(t, e, "sample", math.MaxInt, true)
	wantAt(t, e, "chunk", math.MinInt, true)
	for _, place := range []string{"none", "Chunk", "chun", "chunk ", "chunks", "5", "16"} {
		wantAt(t, e, place, 0, false)
	}
	wantAt(t, errors.Unwrap(e), "sample", 5, true)
	wantAt(t, fail.Wrap(e, "chunk", 0), "chunk", 0, true)
	wantAt(t, around{fail.Wrap(around{e}, "b", 7)}, "chunk", math.MinInt, true)
}

func TestAtOfAnEmptyPlace(t *testing.T) {
	e := fail.Wrap(fail.New(api.ErrShort), "a", 5)
	wantAt(t, e, "", 0, true)
	wantAt(t, fail.Wrap(e, "", -9), "", -9, true)
	wantAt(t, fail.Wrap(fail.Wrap(e, "", -9), "b", 4), "", -9, true)
	wantErr(t, fail.Wrap(e, "", -9), api.ErrShort, 3, false, "a 5: 16")
	wantAt(t, fail.Wrap(fail.ErrClosed, "a", 5), "", 0, false)
}

func TestClosedByItselfAndWrapped(t *testing.T) {
	wantErr(t, fail.ErrClosed, api.ErrForm, 0, true, "closed")
	wantAt(t, fail.ErrClosed, "", 0, false)
	wantAt(t, fail.ErrClosed, "closed", 0, false)
	e := fail.Wrap(fail.ErrClosed, "a", 1)
	wantErr(t, e, api.ErrForm, 1, true, "a 1: closed")
	wantErr(t, fail.Wrap(e, "b", -2), api.ErrForm, 2, true, "b -2: a 1: closed")
	wantErr(t, fail.Wrap(fail.ErrClosed, "", 1), api.ErrForm, 1, true, "closed")
	wantErr(t, &fail.Error{Code: 3, Err: fail.ErrClosed}, 3, 1, true, "closed")
	wantErr(t, around{fail.ErrClosed}, api.ErrForm, 0, true, "closed")
	wantErr(t, fail.Wrap(around{fail.ErrClosed}, "a", 1), api.ErrForm, 1, true, "a 1: closed")
	wantErr(t, around{fail.Wrap(fail.ErrClosed, "a", 1)}, api.ErrForm, 1, true, "a 1: closed")
	if !errors.Is(fail.Wrap(e, "b", 2), fail.ErrClosed) || errors.Is(fail.New(api.ErrForm), fail.ErrClosed) {
		t.Errorf("errors.Is")
	}
}

func TestOthersByThemselvesAndWrapped(t *testing.T) {
	for _, err := range others() {
		wantErr(t, err, api.ErrForm, 0, false, "other")
		wantAt(t, err, "", 0, false)
		wantAt(t, err, "x", 0, false)
		wantErr(t, fail.Wrap(err, "a", 1), api.ErrForm, 1, false, "a 1: other")
		wantErr(t, fail.Wrap(fail.Wrap(err, "a", 1), "b", 2), api.ErrForm, 2, false, "b 2: a 1: other")
		wantAt(t, fail.Wrap(err, "a", 1), "a", 1, true)
		wantErr(t, &fail.Error{Code: 7, Err: err}, 7, 1, false, "other")
	}
}

func TestOthersInTheMidstOfAChain(t *testing.T) {
	e := fail.Wrap(around{around{fail.Wrap(fmt.Errorf("x: %w", fail.New(api.ErrTime)), "a", 1)}}, "b", 2)
	wantErr(t, e, api.ErrTime, 3, false, "b 2: a 1: 24")
	wantErr(t, around{e}, api.ErrTime, 3, false, "b 2: a 1: 24")
	wantAt(t, e, "a", 1, true)
	wantAt(t, e, "", 0, true)
}

func TestAskedByTheLibrary(t *testing.T) {
	inner := fail.New(api.ErrTime)
	e := fail.Wrap(fail.Wrap(inner, "a", 1), "b", 2)
	var x *fail.Error
	if !errors.As(e, &x) || x.Place != "b" || !errors.Is(e, inner) || errors.Is(inner, e) {
		t.Errorf("%+v", x)
	}
}

func TestAskingChangesNothing(t *testing.T) {
	inner := own(t, fail.Wrap(fail.ErrClosed, "a", 1))
	outer := own(t, fail.Wrap(inner, "b", 2))
	wasInner, wasOuter := *inner, *outer
	for range 3 {
		wantErr(t, outer, api.ErrForm, 2, true, "b 2: a 1: closed")
		wantAt(t, outer, "a", 1, true)
		wantAt(t, outer, "c", 0, false)
	}
	if *inner != wasInner || *outer != wasOuter {
		t.Errorf("%+v, %+v", *inner, *outer)
	}
}

// What is set by hand later on is told as it is then: nothing is kept beside the fields.
func TestFieldsMayBeSet(t *testing.T) {
	inner := own(t, fail.Wrap(fail.New(api.ErrTime), "a", 1))
	outer := own(t, fail.Wrap(inner, "b", 2))
	inner.Place, inner.At, inner.Err = "c", -3, fail.ErrClosed
	outer.Code = 99
	wantErr(t, outer, 99, 2, true, "b 2: c -3: closed")
	wantAt(t, outer, "c", -3, true)
	wantAt(t, outer, "a", 0, false)
}

func TestDeepChains(t *testing.T) {
	const deep = 100000
	err, text := fail.New(api.ErrLine), strings.Builder{}
	for i := range deep {
		err = fail.Wrap(err, "p", i)
	}
	for i := range deep {
		fmt.Fprintf(&text, "p %d: ", deep-1-i)
	}
	if fail.Depth(err) != deep+1 || fail.Text(err) != text.String()+"60" || fail.Code(err) != api.ErrLine || fail.Closed(err) {
		t.Errorf("depth %d", fail.Depth(err))
	}
	wantAtDeep(t, err, deep-1)
}

// wantAtDeep: as wantAt, without a text of a hundred thousand places in what it says.
func wantAtDeep(t *testing.T, err error, at int) {
	t.Helper()
	if n, ok := fail.At(err, "p"); n != at || !ok {
		t.Errorf("At: %d, %v", n, ok)
	}
	if n, ok := fail.At(err, "none"); n != 0 || ok {
		t.Errorf("At: %d, %v", n, ok)
	}
}

// Fields may be any: every call ends, of a chain too whose end is one of its own, lead many into round many.
func TestChainsThatAreTied(t *testing.T) {
	for lead := range 6 {
		for round := 1; round < 9; round++ {
			row := make([]*fail.Error, lead+round)
			text := ""
			for i := range row {
				row[i] = &fail.Error{Code: api.Errno(i + 1), Place: "p" + fmt.Sprint(i), At: -i}
				text += fmt.Sprintf("p%d %d: ", i, -i)
			}
			for i := range row {
				if i+1 < len(row) {
					row[i].Err = row[i+1]
				} else {
					row[i].Err = around{row[lead]}
				}
			}
			wantErr(t, row[0], 1, lead+round, false, text+"other")
			wantAt(t, row[0], fmt.Sprintf("p%d", lead+round-1), 1-lead-round, true)
			wantAt(t, row[0], "none", 0, false)
			wantErr(t, fail.Wrap(row[0], "w", 5), 1, lead+round+1, false, "w 5: "+text+"other")
		}
	}
}

func TestNilErrorsOfTheTypeDoNotPanic(t *testing.T) {
	var none *fail.Error
	for _, err := range []error{none, around{none}, fail.Wrap(none, "a", 1)} {
		fail.Code(err)
		fail.At(err, "")
		fail.Depth(err)
		fail.Closed(err)
		fail.Text(err)
		if err.Error() == "" {
			t.Errorf("no text")
		}
	}
	if err := none.Unwrap(); err != nil {
		t.Errorf("%v", err)
	}
}
