package blame_test

import (
	"errors"
	"fmt"
	"io"
	"math"
	"math/rand"
	"slices"
	"strconv"
	"strings"
	"testing"

	"espalier/api"
	"espalier/blame"
)

// codes are api's own ones, and others: beside those that may be tried again, below 0, and at the ends.
var codes = []api.Errno{
	api.ErrArg, api.ErrLimit, api.ErrForm, api.ErrMore, api.ErrRange, api.ErrNil, api.ErrNone, api.ErrVersion, api.ErrTwice, api.ErrTimeout, api.ErrContention, api.ErrFull, api.ErrKind,
	14, 99, 1 << 32, 1<<32 + 8, math.MaxInt, -1, -7, -8, -10, -11, -13, math.MinInt,
}

// ops are any texts, of no bytes too, and such as look like what Text puts between.
var ops = []string{"", "get", "put", ": ", "; ", "error 7", " ", "\x00", "\xff\xfe", "a\nb", "älter", strings.Repeat("long ", 2000)}

// The errors made elsewhere: what unwraps to nothing, to one, and to several, each of a type of its own.

type alone string

func (a alone) Error() string { return string(a) }

type outer struct{ err error }

func (o outer) Error() string { return "outer" }
func (o outer) Unwrap() error { return o.err }

type several []error

func (s several) Error() string   { return "several" }
func (s several) Unwrap() []error { return s }

// A listed error can't be compared, nor be unwrapped, though it has one of ours.
type listed struct{ errs []error }

func (l listed) Error() string { return "listed" }

// A broken error panics, whatever it is asked; so does a nil pointer to an outer one.
type broken struct{}

func (broken) Error() string { panic("Error") }
func (broken) Unwrap() error { panic("Unwrap") }
func (broken) Is(error) bool { panic("Is") }
func (broken) As(any) bool   { panic(errors.New("As")) }

func brokenErrors() []error {
	return []error{broken{}, &broken{}, (*broken)(nil), (*outer)(nil)}
}

func wrapped(err error) error { return fmt.Errorf("elsewhere: %w", err) }

// A told error is one, and what the chapter says of it.
type told struct {
	err   error
	codes []api.Errno
	trail []string
	text  string
}

func toldCode(code api.Errno) told {
	return told{blame.New(code), []api.Errno{code}, nil, "error " + strconv.Itoa(int(code))}
}

func toldWrap(op string, x told) told {
	return told{blame.Wrap(op, x.err), x.codes, append([]string{op}, x.trail...), op + ": " + x.text}
}

func toldJoin(list ...told) told {
	var errs []error
	var codes []api.Errno
	var texts []string
	for _, x := range list {
		errs = append(errs, x.err)
		codes = append(codes, x.codes...)
		texts = append(texts, x.text)
	}
	return told{blame.Join(errs...), codes, nil, strings.Join(texts, "; ")}
}

// toldOther is of an error made elsewhere, in which the codes of all that it unwraps to are.
func toldOther(err error, in ...told) told {
	var codes []api.Errno
	for _, x := range in {
		codes = append(codes, x.codes...)
	}
	return told{err, codes, nil, err.Error()}
}

func (x told) code() api.Errno {
	if len(x.codes) == 0 {
		return api.ErrKind
	}
	return x.codes[0]
}

func (x told) again() bool {
	return slices.ContainsFunc(x.codes, func(code api.Errno) bool { return code == 8 || code == 10 || code == 11 })
}

// hold asks for all that is told of an error that is not nil.
func hold(t *testing.T, x told) {
	t.Helper()
	if x.err == nil {
		t.Fatalf("P6.1: nil, want %.60q", x.text)
	}
	if got := blame.Code(x.err); got != x.code() {
		t.Errorf("P6.2: Code of %.60q: %d, want %d", x.text, got, x.code())
	}
	for _, code := range append([]api.Errno{api.OK}, codes...) {
		if got := blame.Has(x.err, code); got != slices.Contains(x.codes, code) {
			t.Errorf("P6.2: Has of %.60q, %d: %t", x.text, code, got)
		}
	}
	if got := blame.Again(x.err); got != x.again() {
		t.Errorf("P6.2: Again of %.60q: %t", x.text, got)
	}
	if got := blame.Trail(x.err); !slices.Equal(got, x.trail) {
		t.Errorf("P6.3: Trail of %.60q: %.60q, want %.60q", x.text, got, x.trail)
	}
	if got := blame.Text(x.err); got != x.text {
		t.Errorf("P6.3: Text: %.60q, want %.60q", got, x.text)
	}
	if got := x.err.Error(); got != x.text {
		t.Errorf("P6.3: Error: %.60q, want %.60q", got, x.text)
	}
}

// holdNil asks for what is told of nil.
func holdNil(t *testing.T, what string, err error) {
	t.Helper()
	if err != nil {
		t.Fatalf("P6.1: %s: %q, want nil", what, blame.Text(err))
	}
	if blame.Code(err) != api.OK || blame.Again(err) || !blame.Has(err, api.OK) {
		t.Errorf("P6.2: of nil: Code %d, Again %t, Has OK %t", blame.Code(err), blame.Again(err), blame.Has(err, api.OK))
	}
	for _, code := range codes {
		if blame.Has(err, code) {
			t.Errorf("P6.2: %d is in nil", code)
		}
	}
	if len(blame.Trail(err)) != 0 || blame.Text(err) != "" {
		t.Errorf("P6.3: of nil: %q, %q", blame.Trail(err), blame.Text(err))
	}
}

func TestTheChaptersExample(t *testing.T) {
	err := blame.Wrap("get", blame.Join(nil, blame.New(7), blame.New(10)))
	if blame.Text(err) != "get: error 7; error 10" || blame.Code(err) != 7 || !blame.Again(err) || !slices.Equal(blame.Trail(err), []string{"get"}) {
		t.Errorf("P6.1: %q, %d, %t, %q", blame.Text(err), blame.Code(err), blame.Again(err), blame.Trail(err))
	}
	hold(t, toldWrap("get", toldJoin(toldCode(7), toldCode(10))))
}

func TestNil(t *testing.T) {
	holdNil(t, "nil", nil)
	holdNil(t, "New of OK", blame.New(api.OK))
	for _, op := range ops {
		holdNil(t, "Wrap of nil", blame.Wrap(op, nil))
		holdNil(t, "Wrap of Wrap of nil", blame.Wrap(op, blame.Wrap("get", nil)))
	}
	holdNil(t, "Join of nothing", blame.Join())
	holdNil(t, "Join of no list", blame.Join([]error(nil)...))
	for n := 1; n < 5; n++ {
		holdNil(t, "Join of nils", blame.Join(make([]error, n)...))
	}
	holdNil(t, "Join of what is nil", blame.Join(blame.New(api.OK), blame.Wrap("get", nil), blame.Join()))
}

func TestCodes(t *testing.T) {
	for _, code := range codes {
		x := toldCode(code)
		hold(t, x)
		if !errors.Is(x.err, blame.New(code)) || errors.Is(x.err, blame.New(code+1)) {
			t.Errorf("P6.1: New of %d is not the code of that number alone", code)
		}
	}
	for code, want := range map[api.Errno]string{7: "error 7", 10: "error 10", 123456: "error 123456", -1: "error -1", -12: "error -12", math.MinInt: "error -9223372036854775808", math.MaxInt: "error 9223372036854775807"} {
		if got := blame.Text(blame.New(code)); got != want {
			t.Errorf("P6.3: Text of the code %d: %q", code, got)
		}
	}
}

func TestWhatMayBeTriedAgain(t *testing.T) {
	for code := api.Errno(-20); code < 40; code++ {
		want := code == api.ErrVersion || code == api.ErrTimeout || code == api.ErrContention
		none := blame.New(api.ErrNone)
		for i, err := range []error{blame.New(code), blame.Wrap("a", blame.New(code)), blame.Join(none, blame.New(code)), blame.Join(blame.New(code), none), blame.Wrap("a", blame.Join(none, wrapped(blame.Wrap("b", blame.New(code)))))} {
			if blame.Again(err) != want {
				t.Errorf("P6.2: Again of the code %d, shape %d: %t", code, i, !want)
			}
		}
	}
}

func TestWraps(t *testing.T) {
	for _, code := range codes {
		for _, op := range ops {
			x := toldWrap(op, toldCode(code))
			hold(t, x)
			for _, ahead := range ops {
				hold(t, toldWrap(ahead, x))
			}
		}
	}
	long := toldCode(api.ErrNone)
	for _, op := range ops {
		long = toldWrap(op, long)
	}
	hold(t, long)
	if got := blame.Text(blame.Wrap("", blame.Wrap("a", blame.Wrap("", blame.New(-3))))); got != ": a: : error -3" {
		t.Errorf("P6.3: Text of wraps of no op: %q", got)
	}
}

func TestJoins(t *testing.T) {
	none, late, low := toldCode(api.ErrNone), toldCode(api.ErrTimeout), toldCode(-5)
	for _, x := range []told{
		toldJoin(none), toldJoin(none, late), toldJoin(late, none), toldJoin(none, none), toldJoin(low, late, none),
		toldJoin(toldJoin(none)), toldJoin(toldJoin(none, late), low), toldJoin(low, toldJoin(toldJoin(late), none)),
		toldJoin(toldWrap("a", none), toldWrap("b", late)), toldJoin(toldWrap("", none)), toldJoin(toldWrap("a", toldJoin(late, none)), low),
		toldWrap("a", toldJoin(none)), toldWrap("a", toldJoin(none, late)), toldWrap("a", toldWrap("b", toldJoin(toldWrap("c", low), none))),
	} {
		hold(t, x)
	}
	if got := blame.Text(blame.Join(blame.Join(blame.New(1), blame.New(2)), blame.Wrap("a", blame.New(3)))); got != "error 1; error 2; a: error 3" {
		t.Errorf("P6.3: Text of a join: %q", got)
	}
}

// TestAJoinOfOne is a join all the same: its Trail is not that of the one.
func TestAJoinOfOne(t *testing.T) {
	one := blame.Wrap("a", blame.New(api.ErrNone))
	for _, err := range []error{blame.Join(one), blame.Join(nil, one), blame.Join(one, nil), blame.Join(blame.Join(one))} {
		if len(blame.Trail(err)) != 0 {
			t.Errorf("P6.1: Trail of a join of one: %q", blame.Trail(err))
		}
		if blame.Text(err) != "a: error 7" || blame.Code(err) != api.ErrNone || !errors.Is(err, one) {
			t.Errorf("P6.1: a join of one: %q, %d", blame.Text(err), blame.Code(err))
		}
	}
}

func TestNilsInAJoin(t *testing.T) {
	a, b := blame.New(1), blame.Wrap("b", blame.New(2))
	for _, list := range [][]error{{a, b}, {nil, a, b}, {a, nil, b}, {a, b, nil}, {nil, nil, a, nil, nil, b, nil, nil}, {blame.Join(), a, blame.Wrap("x", nil), b, blame.New(0)}} {
		hold(t, told{blame.Join(list...), []api.Errno{1, 2}, nil, "error 1; b: error 2"})
	}
}

func TestAJoinsListStaysAndIsNotKept(t *testing.T) {
	a, b, c := blame.New(1), blame.New(2), blame.New(3)
	for _, list := range [][]error{{a, b}, {a, nil, b, nil}, {nil, a, b}} {
		was := slices.Clone(list)
		err := blame.Join(list...)
		for i := range list {
			if (list[i] == nil) != (was[i] == nil) || was[i] != nil && list[i] != was[i] {
				t.Errorf("P6.1: Join changed its list at %d", i)
			}
			list[i] = c
		}
		if blame.Text(err) != "error 1; error 2" {
			t.Errorf("P6.1: a join, its list changed: %q", blame.Text(err))
		}
	}
}

func TestWhatIsToldIsNewMemory(t *testing.T) {
	err := blame.Wrap("a", blame.Wrap("b", blame.Join(blame.New(1), blame.New(2))))
	trail := blame.Trail(err)
	trail[0], trail[1] = "x", "y"
	if !slices.Equal(blame.Trail(err), []string{"a", "b"}) {
		t.Errorf("P6.3: Trail, changed by who got it: %q", blame.Trail(err))
	}
	join := blame.Join(blame.New(1), blame.New(2))
	in, ok := join.(interface{ Unwrap() []error })
	if !ok {
		t.Fatal("P6.2: a join does not unwrap to several")
	}
	clear(in.Unwrap())
	if blame.Text(join) != "error 1; error 2" {
		t.Errorf("P6.1: a join, changed by who unwrapped it: %q", blame.Text(join))
	}
}

// TestTheFirstCode is told from the outside in, and in order: what stands deep in the first of a join is ahead of what stands beside it.
func TestTheFirstCode(t *testing.T) {
	a, b, c := blame.New(1), blame.New(2), blame.New(3)
	other := errors.New("other")
	for i, x := range []struct {
		err  error
		code api.Errno
	}{
		{blame.Join(a, b), 1}, {blame.Join(b, a), 2}, {blame.Join(blame.Wrap("x", blame.Wrap("y", blame.Join(c, a))), b), 3},
		{blame.Join(blame.Join(blame.Join(b), c), a), 2}, {blame.Join(other, c, a), 3}, {blame.Join(blame.Join(other), wrapped(b), a), 2},
		{blame.Join(errors.Join(other, b), a), 2}, {blame.Wrap("x", several{nil, other, outer{c}, a}), 3}, {fmt.Errorf("%w, and %w", other, blame.Join(b, a)), 2},
		{blame.Join(blame.New(api.ErrKind), a), api.ErrKind}, {blame.Join(other, blame.New(-4)), -4}, {blame.Join(outer{nil}, a), 1},
	} {
		if got := blame.Code(x.err); got != x.code {
			t.Errorf("P6.2: %d: Code %d, want %d", i, got, x.code)
		}
	}
}

func TestTrailEndsAtWhatIsNoWrap(t *testing.T) {
	inner := blame.Wrap("in", blame.New(api.ErrNone))
	for i, err := range []error{blame.New(api.ErrNone), blame.Join(inner), blame.Join(inner, inner), wrapped(inner), outer{inner}, several{inner}, errors.New("other"), nil} {
		if got := blame.Trail(err); len(got) != 0 {
			t.Errorf("P6.3: %d: Trail %q of what is no wrap", i, got)
		}
		if got := blame.Trail(blame.Wrap("a", blame.Wrap("", err))); err != nil && !slices.Equal(got, []string{"a", ""}) {
			t.Errorf("P6.3: %d: Trail %q", i, got)
		}
	}
}

func TestErrorsMadeElsewhere(t *testing.T) {
	none, late := toldCode(api.ErrNone), toldCode(api.ErrTimeout)
	deep := toldWrap("a", toldJoin(none, toldWrap("b", late)))
	for _, x := range []told{
		toldOther(errors.New("other")), toldOther(errors.New("")), toldOther(errors.New("error 7")), toldOther(alone("a: error 10")), toldOther(io.EOF), toldOther(listed{}), toldOther(listed{[]error{none.err}}), toldOther(outer{}), toldOther(several{}), toldOther(several{nil, nil}),
		toldOther(wrapped(none.err), none), toldOther(outer{late.err}, late), toldOther(outer{outer{deep.err}}, deep), toldOther(wrapped(deep.err), deep), toldOther(several{nil, late.err, deep.err}, late, deep), toldOther(errors.Join(none.err, late.err), none, late), toldOther(fmt.Errorf("%w, and %w", deep.err, late.err), deep, late),
	} {
		hold(t, x)
		hold(t, toldWrap("get", x))
		hold(t, toldWrap("", toldWrap("get", x)))
		hold(t, toldJoin(x))
		hold(t, toldJoin(none, x))
		hold(t, toldJoin(x, late, x))
		hold(t, toldWrap("put", toldJoin(toldWrap("get", x), none)))
		again := toldOther(wrapped(toldWrap("get", x).err), x)
		hold(t, again)
		hold(t, toldJoin(again, toldCode(-1)))
	}
}

// TestGosPackageErrorsLooksIntoOurs finds each error in itself, and in all wraps and joins of it.
func TestGosPackageErrorsLooksIntoOurs(t *testing.T) {
	other, unlike := errors.New("other"), errors.New("other")
	for i, in := range []error{other, blame.New(api.ErrNone), blame.Wrap("in", other), blame.Join(other), alone("x"), wrapped(other)} {
		for k, err := range []error{in, blame.Wrap("a", in), blame.Join(in), blame.Join(unlike, in), blame.Wrap("a", blame.Join(unlike, blame.Wrap("b", in))), wrapped(blame.Wrap("a", in)), blame.Join(wrapped(in))} {
			if !errors.Is(err, in) || errors.Is(err, io.EOF) {
				t.Errorf("P6.2: %d is not in the shape %d of it", i, k)
			}
		}
		if got := errors.Unwrap(blame.Wrap("a", in)); got == nil || got != in {
			t.Errorf("P6.1: a wrap of %d unwraps to %v", i, got)
		}
	}
	var found alone
	if !errors.As(blame.Wrap("a", blame.Join(other, blame.Wrap("b", alone("x")))), &found) || found != "x" {
		t.Errorf("P6.2: what was made elsewhere is not found by its type: %q", found)
	}
	if errors.Is(blame.Wrap("a", other), blame.New(api.ErrKind)) || !errors.Is(blame.Wrap("a", blame.New(api.ErrKind)), blame.New(api.ErrKind)) {
		t.Error("P6.2: ErrKind is in what has no code, or not in what has it")
	}
}

// TestErrorsThatPanic: no call does, and codes beside such an error are found.
func TestErrorsThatPanic(t *testing.T) {
	late := blame.New(api.ErrTimeout)
	for i, bad := range brokenErrors() {
		for k, err := range []error{bad, blame.Wrap("a", bad), blame.Join(bad), blame.Wrap("a", blame.Join(bad, bad)), outer{bad}} {
			if blame.Code(err) != api.ErrKind || blame.Has(err, api.ErrTimeout) || blame.Has(err, api.OK) || blame.Again(err) {
				t.Errorf("P6.2: %d, shape %d: Code %d, Again %t", i, k, blame.Code(err), blame.Again(err))
			}
		}
		for k, err := range []error{blame.Join(bad, late), blame.Join(late, bad), blame.Wrap("a", blame.Join(blame.Wrap("b", bad), wrapped(late))), blame.Join(blame.Join(bad), late)} {
			if blame.Code(err) != api.ErrTimeout || !blame.Has(err, api.ErrTimeout) || blame.Has(err, api.ErrKind) || !blame.Again(err) {
				t.Errorf("P6.2: %d beside a code, shape %d: Code %d, Again %t", i, k, blame.Code(err), blame.Again(err))
			}
		}
		if got := blame.Text(bad); got != "" {
			t.Errorf("P6.3: %d: Text %q", i, got)
		}
		err := blame.Wrap("a", blame.Join(late, bad, late))
		if got := blame.Text(err); got != "a: error 10; ; error 10" || err.Error() != got || !slices.Equal(blame.Trail(err), []string{"a"}) {
			t.Errorf("P6.3: %d: Text %q", i, got)
		}
	}
}

// anyError makes one at random, of so many levels at most.
func anyError(source *rand.Rand, levels int) told {
	kind := source.Intn(9)
	if levels == 0 {
		kind = source.Intn(3)
	}
	below := func() told { return anyError(source, levels-1) }
	switch kind {
	case 0, 1:
		return toldCode(codes[source.Intn(len(codes))])
	case 2:
		return toldOther(alone(ops[source.Intn(7)]))
	case 3, 4:
		return toldWrap(ops[source.Intn(7)], below())
	case 5:
		x := below()
		return toldOther(outer{x.err}, x)
	case 6:
		x, y := below(), below()
		return toldOther(errors.Join(x.err, y.err), x, y)
	}
	list := make([]told, 1+source.Intn(4))
	for i := range list {
		list[i] = below()
	}
	return toldJoin(list...)
}

func TestAnyErrors(t *testing.T) {
	source := rand.New(rand.NewSource(1))
	for range 4000 {
		hold(t, anyError(source, source.Intn(6)))
	}
}

// TestWhatFollows holds a wrap against what it wraps, and a join against its parts, by what the calls say of these.
func TestWhatFollows(t *testing.T) {
	source := rand.New(rand.NewSource(2))
	for range 1000 {
		parts := make([]error, 1+source.Intn(4))
		for i := range parts {
			parts[i] = anyError(source, source.Intn(5)).err
		}
		one, op := parts[0], ops[source.Intn(7)]
		wrap, join := blame.Wrap(op, one), blame.Join(parts...)
		for _, code := range append([]api.Errno{api.OK, 12345}, codes...) {
			if blame.Has(wrap, code) != blame.Has(one, code) {
				t.Errorf("P6.4: %d is in a wrap of %q, or in that, alone", code, blame.Text(one))
			}
			if blame.Has(join, code) != slices.ContainsFunc(parts, func(part error) bool { return blame.Has(part, code) }) {
				t.Errorf("P6.4: %d is in %q, or in what it joins, alone", code, blame.Text(join))
			}
		}
		if blame.Code(wrap) != blame.Code(one) || blame.Again(wrap) != blame.Again(one) || blame.Again(join) != slices.ContainsFunc(parts, blame.Again) {
			t.Errorf("P6.4: %q: Code %d, Again %t", blame.Text(wrap), blame.Code(wrap), blame.Again(wrap))
		}
		if got := blame.Trail(wrap); !slices.Equal(got, append([]string{op}, blame.Trail(one)...)) {
			t.Errorf("P6.4: Trail %q of a wrap, %q of what it wraps", got, blame.Trail(one))
		}
	}
}

// TestManyLevels has as many as the document's limits allow: of wraps, of joins, and of both.
func TestManyLevels(t *testing.T) {
	const levels = 1 << 16
	wraps, joins, turns := blame.New(api.ErrTimeout), blame.New(api.ErrTimeout), blame.New(api.ErrTimeout)
	for i := range levels {
		wraps, joins = blame.Wrap("a", wraps), blame.Join(joins)
		if i%2 == 0 {
			turns = blame.Wrap("a", turns)
		} else {
			turns = blame.Join(blame.New(-1), turns)
		}
	}
	for i, err := range []error{wraps, joins, turns} {
		if !blame.Has(err, api.ErrTimeout) || blame.Has(err, api.ErrNone) || !blame.Again(err) {
			t.Errorf("P6.2: %d: codes below many levels", i)
		}
	}
	if blame.Code(wraps) != api.ErrTimeout || blame.Code(joins) != api.ErrTimeout || blame.Code(turns) != -1 {
		t.Error("P6.2: Code below many levels")
	}
	if len(blame.Trail(wraps)) != levels || len(blame.Trail(joins)) != 0 || len(blame.Trail(turns)) != 0 {
		t.Error("P6.3: Trail of many levels")
	}
	if blame.Text(wraps) != strings.Repeat("a: ", levels)+"error 10" || blame.Text(joins) != "error 10" || blame.Text(turns) != strings.Repeat("error -1; a: ", levels/2)+"error 10" {
		t.Error("P6.3: Text of many levels")
	}
}
