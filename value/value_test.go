package value_test

import (
	"math"
	"slices"
	"strings"
	"testing"

	"ligature/api"
	"ligature/real"
	"ligature/value"
)

const canonical = 0x7ff8000000000000

var (
	bits     = math.Float64bits
	from     = math.Float64frombits
	nan      = from(canonical)
	negZero  = math.Copysign(0, -1)
	posInf   = math.Inf(1)
	negInf   = math.Inf(-1)
	smallest = math.SmallestNonzeroFloat64
)

func truth(b bool) api.Val     { return api.Val{Kind: api.Bool, B: b} }
func whole(n int) api.Val      { return api.Val{Kind: api.Int, N: n} }
func number(f float64) api.Val { return api.Val{Kind: api.Real, F: f} }
func text(s string) api.Val    { return api.Val{Kind: api.Text, T: s} }

// rising has valid values of every kind in strictly rising order.
func rising() []api.Val {
	l := []api.Val{{}, truth(false), truth(true)}
	for _, n := range []int{math.MinInt, math.MinInt + 1, -1 << 53, -256, -10, -9, -2, -1, 0, 1, 2, 9, 10, 256, 1 << 53, 1<<53 + 1, math.MaxInt - 1, math.MaxInt} {
		l = append(l, whole(n))
	}
	for _, f := range []float64{negInf, -math.MaxFloat64, -2, -1, -smallest, negZero, 0, smallest, 1, 2, 10, math.MaxFloat64, posInf, nan} {
		l = append(l, number(f))
	}
	for _, s := range []string{"", " ", "  ", " ~", "!", "-1", "1", "10", "2", "A", "Z", "a", "a ", "aB", "aa", "aaaaaaaaaaaa", "aaaaaaaaaaab", "ab", "abc", "b", "~", "~ ", "~~", "~~~~~~~~~~~~"} {
		l = append(l, text(s))
	}
	return l
}

// strangeNaNs has NaNs of both signs, quiet and signalling, all but the canonical one.
func strangeNaNs() []float64 {
	var l []float64
	for i := range 52 {
		l = append(l, from(0xfff<<52|1<<i), from(canonical|1<<63|1<<i), from(0x7ff<<52|(1<<(i+1)-1)))
		if i < 51 {
			l = append(l, from(0x7ff<<52|1<<i), from(canonical|1<<i))
		}
	}
	return append(l, math.NaN())
}

func wantIs(t *testing.T, v api.Val, want bool) {
	t.Helper()
	if got := value.Is(v); got != want {
		t.Errorf("Is(%#v) = %v, F has the bits %016x, T %d bytes", v, got, bits(v.F), len(v.T))
	}
}

// wantCmp asks for the order of two values in both directions, and for Same with it.
func wantCmp(t *testing.T, a, b api.Val, want int) {
	t.Helper()
	if got := value.Cmp(a, b); got != want {
		t.Errorf("Cmp(%#v, %#v) = %d, want %d", a, b, got, want)
	}
	if got := value.Cmp(b, a); got != -want {
		t.Errorf("Cmp(%#v, %#v) = %d, want %d", b, a, got, -want)
	}
	if value.Same(a, b) != (want == 0) || value.Same(b, a) != (want == 0) {
		t.Errorf("Same(%#v, %#v) = %v, %v the other way", a, b, value.Same(a, b), value.Same(b, a))
	}
}

// P2.1: Is

func TestIsOfEveryKind(t *testing.T) {
	for _, v := range rising() {
		wantIs(t, v, true)
	}
}

func TestIsNotOfAnotherKind(t *testing.T) {
	for _, k := range []int{-1, -2, 5, 6, 7, 8, 16, 256, 1<<32 | api.Int, 1<<8 | api.Text, math.MinInt, math.MaxInt} {
		wantIs(t, api.Val{Kind: k}, false)
		wantIs(t, api.Val{Kind: k, B: true}, false)
		wantIs(t, api.Val{Kind: k, N: 1}, false)
		wantIs(t, api.Val{Kind: k, F: 1}, false)
		wantIs(t, api.Val{Kind: k, T: "a"}, false)
	}
}

// strays has, for each field, settings of it that are not its zero value.
func strays() map[int][]func(*api.Val) {
	var n, f, s []func(*api.Val)
	for _, x := range []int{1, -1, math.MinInt, math.MaxInt, 1 << 32} {
		n = append(n, func(v *api.Val) { v.N = x })
	}
	for _, x := range append(strangeNaNs(), 1, -1, negZero, smallest, -smallest, posInf, negInf, nan) {
		f = append(f, func(v *api.Val) { v.F = x })
	}
	for _, x := range []string{"a", " ", "\x00", "\x7f", "twelve bytes", strings.Repeat("a", 1000)} {
		s = append(s, func(v *api.Val) { v.T = x })
	}
	return map[int][]func(*api.Val){
		api.Bool: {func(v *api.Val) { v.B = true }},
		api.Int:  n,
		api.Real: f,
		api.Text: s,
	}
}

func TestIsNotWithAFieldOfAnotherKind(t *testing.T) {
	for _, v := range rising() {
		for kind, sets := range strays() {
			if kind == v.Kind {
				continue
			}
			for _, set := range sets {
				stray := v
				set(&stray)
				wantIs(t, stray, false)
			}
		}
	}
}

func TestIsNotWithNegativeZeroBeside(t *testing.T) {
	wantIs(t, api.Val{Kind: api.Null, F: negZero}, false)
	wantIs(t, api.Val{Kind: api.Bool, F: negZero}, false)
	wantIs(t, api.Val{Kind: api.Bool, B: true, F: negZero}, false)
	wantIs(t, api.Val{Kind: api.Int, N: 3, F: negZero}, false)
	wantIs(t, api.Val{Kind: api.Text, T: "a", F: negZero}, false)
	wantIs(t, api.Val{Kind: api.Real, F: negZero}, true)
}

func TestIsOfNaNs(t *testing.T) {
	wantIs(t, number(nan), true)
	for _, f := range strangeNaNs() {
		wantIs(t, number(f), false)
	}
}

func TestIsOfEveryExponent(t *testing.T) {
	for e := range uint64(0x800) {
		for _, sign := range []uint64{0, 1 << 63} {
			f := from(sign | e<<52)
			wantIs(t, number(f), true)
		}
	}
}

func TestIsOfLengths(t *testing.T) {
	for n := range api.MaxText + 1 {
		wantIs(t, text(strings.Repeat("x", n)), true)
	}
	for _, n := range []int{api.MaxText + 1, api.MaxText + 2, 255, 256, 257, 1<<16 + 1, 1 << 20} {
		wantIs(t, text(strings.Repeat("x", n)), false)
	}
	// Bytes are counted and not runes, and no byte of these is valid either.
	wantIs(t, text(strings.Repeat("\u00e4", api.MaxText)), false)
}

func TestIsOfEveryByteAtEveryPlace(t *testing.T) {
	for c := range 256 {
		for n := 1; n <= api.MaxText; n++ {
			for place := range n {
				s := []byte(strings.Repeat("x", n))
				s[place] = byte(c)
				wantIs(t, text(string(s)), c >= 0x20 && c <= 0x7e)
			}
		}
	}
}

func TestIsNotOfOtherRunes(t *testing.T) {
	for _, s := range []string{"\u00e4", "a\u0301", "\u2028", "\U0001f600", "\xff", "\xc3", "\x80", "a\x00", "\t", "\n", "a\x1f", "\x7f"} {
		wantIs(t, text(s), false)
	}
}

// P2.1: Cmp and Same

func TestCmpExample(t *testing.T) {
	if got := value.Cmp(number(negZero), number(0)); got != -1 {
		t.Errorf("Cmp(-0, 0) = %d", got)
	}
}

func TestCmpIsByKindFirst(t *testing.T) {
	l := rising()
	for _, a := range l {
		for _, b := range l {
			if a.Kind < b.Kind {
				wantCmp(t, a, b, -1)
			}
		}
	}
	// Nothing of what the values hold says otherwise.
	wantCmp(t, truth(true), whole(math.MinInt), -1)
	wantCmp(t, whole(math.MaxInt), number(negInf), -1)
	wantCmp(t, whole(1), number(1), -1)
	wantCmp(t, number(nan), text(""), -1)
	wantCmp(t, api.Val{}, truth(false), -1)
}

func TestCmpWithinEachKind(t *testing.T) {
	wantCmp(t, api.Val{}, api.Val{}, 0)
	wantCmp(t, truth(false), truth(true), -1)
	wantCmp(t, truth(false), truth(false), 0)
	wantCmp(t, truth(true), truth(true), 0)
	// A difference would wrap around, and a float64 would not tell these apart.
	wantCmp(t, whole(math.MinInt), whole(math.MaxInt), -1)
	wantCmp(t, whole(math.MinInt), whole(1), -1)
	wantCmp(t, whole(-1), whole(math.MaxInt), -1)
	wantCmp(t, whole(math.MaxInt-1), whole(math.MaxInt), -1)
	wantCmp(t, whole(math.MinInt), whole(math.MinInt+1), -1)
	wantCmp(t, whole(-3), whole(2), -1)
	wantCmp(t, whole(9), whole(10), -1)
	wantCmp(t, text("a"), text("ab"), -1)
	wantCmp(t, text(""), text(" "), -1)
	wantCmp(t, text("ab"), text("b"), -1)
	wantCmp(t, text("10"), text("9"), -1)
	wantCmp(t, text("Z"), text("a"), -1)
	wantCmp(t, text("aaaaaaaaaaaa"), text("aaaaaaaaaaab"), -1)
	wantCmp(t, text("same"), text("same"), 0)
}

func TestCmpOfNumbersIsThatOfReal(t *testing.T) {
	var l []float64
	for e := uint64(0); e < 0x800; e += 31 {
		for _, m := range []uint64{0, 1, 1 << 51} {
			f := real.Norm(from(e<<52 | m))
			l = append(l, f, real.Norm(-f))
		}
	}
	l = append(l, posInf, negInf, nan)
	for _, a := range l {
		for _, b := range l {
			wantCmp(t, number(a), number(b), real.Cmp(a, b))
		}
	}
}

func TestCmpIsTheOrderOfTheList(t *testing.T) {
	l := rising()
	for i, a := range l {
		for k, b := range l {
			switch {
			case i < k:
				wantCmp(t, a, b, -1)
			case i == k:
				wantCmp(t, a, b, 0)
			}
		}
	}
}

// P2.1: In

func TestIn(t *testing.T) {
	l := rising()
	for i, v := range l {
		for lo := range l {
			for hi := range l {
				// Where lo comes after hi, nothing lies between.
				want := i >= lo && i <= hi
				if got := value.In(v, l[lo], l[hi]); got != want {
					t.Fatalf("In(%#v, %#v, %#v) = %v", v, l[lo], l[hi], got)
				}
			}
		}
	}
}

func TestInAtTheEnds(t *testing.T) {
	for i, x := range []struct {
		v, lo, hi api.Val
		want      bool
	}{
		{whole(3), whole(3), whole(3), true},
		{whole(3), whole(3), whole(5), true},
		{whole(5), whole(3), whole(5), true},
		{whole(2), whole(3), whole(5), false},
		{whole(6), whole(3), whole(5), false},
		{whole(4), whole(5), whole(3), false},
		{whole(3), whole(5), whole(3), false},
		{whole(5), whole(5), whole(3), false},
		{whole(math.MaxInt), whole(math.MinInt), whole(math.MaxInt), true},
		{number(negZero), number(0), number(1), false},
		{number(0), number(-1), number(negZero), false},
		{number(negZero), number(negZero), number(0), true},
		{number(nan), number(negInf), number(posInf), false},
		{number(nan), number(posInf), number(nan), true},
		{number(nan), number(nan), number(nan), true},
		{number(posInf), number(0), number(nan), true},
		{text("ab"), text("a"), text("b"), true},
		{text("b "), text("a"), text("b"), false},
		{number(nan), whole(0), text(""), true},
		{text(""), api.Val{}, number(nan), false},
		{api.Val{}, api.Val{}, api.Val{}, true},
		{truth(true), truth(false), truth(false), false},
	} {
		if got := value.In(x.v, x.lo, x.hi); got != x.want {
			t.Errorf("%d: In(%#v, %#v, %#v) = %v", i, x.v, x.lo, x.hi, got)
		}
	}
}

// P2.2

func TestCmpIsATotalOrder(t *testing.T) {
	l := rising()
	for _, a := range l {
		for _, b := range l {
			ab := value.Cmp(a, b)
			if ab < -1 || ab > 1 || ab != -value.Cmp(b, a) {
				t.Fatalf("Cmp(%#v, %#v) = %d, %d the other way", a, b, ab, value.Cmp(b, a))
			}
			if (ab == 0) != identical(a, b) {
				t.Fatalf("Cmp(%#v, %#v) = %d", a, b, ab)
			}
			for _, c := range l {
				if ab <= 0 && value.Cmp(b, c) <= 0 && value.Cmp(a, c) > 0 {
					t.Fatalf("%#v, %#v, %#v do not rise", a, b, c)
				}
			}
		}
	}
}

// identical tells values apart by their fields, and numbers by their bits.
func identical(a, b api.Val) bool {
	return a.Kind == b.Kind && a.B == b.B && a.N == b.N && bits(a.F) == bits(b.F) && a.T == b.T
}

func TestSortingFindsTheOrderAgain(t *testing.T) {
	want := rising()
	for step := 1; step < len(want); step++ {
		got := slices.Clone(want)
		slices.Reverse(got[:step])
		slices.Reverse(got[step/2:])
		slices.SortFunc(got, value.Cmp)
		if !slices.EqualFunc(got, want, identical) {
			t.Fatalf("step %d: sorted to %#v", step, got)
		}
	}
}

func TestNaNIsEqualToItself(t *testing.T) {
	wantCmp(t, number(nan), number(nan), 0)
	for _, f := range []float64{negInf, -1, negZero, 0, 1, math.MaxFloat64, posInf} {
		wantCmp(t, number(f), number(nan), -1)
	}
}

func TestZerosDiffer(t *testing.T) {
	wantCmp(t, number(negZero), number(0), -1)
	wantCmp(t, number(negZero), number(negZero), 0)
	wantCmp(t, number(0), number(0), 0)
}

// W1: values that are not valid are compared without a panic, to one of the three results.

func TestInvalidValuesDoNotPanic(t *testing.T) {
	l := append(rising(), api.Val{Kind: -1}, api.Val{Kind: 5, T: "a"}, api.Val{Kind: math.MinInt}, api.Val{Kind: math.MaxInt, F: math.NaN()},
		api.Val{Kind: api.Text, T: strings.Repeat("\xff", 1<<16), N: 1}, number(from(0xfff0000000000001)), api.Val{F: negZero})
	for _, a := range l {
		value.Is(a)
		for _, b := range l {
			if n := value.Cmp(a, b); n < -1 || n > 1 || value.Same(a, b) != (n == 0) {
				t.Errorf("Cmp(%#v, %#v) = %d, Same = %v", a, b, n, value.Same(a, b))
			}
			value.In(a, b, a)
		}
	}
}

func FuzzIsAndCmp(f *testing.F) {
	for _, v := range rising() {
		f.Add(v.Kind, v.B, v.N, bits(v.F), v.T)
	}
	f.Add(5, false, 0, uint64(0), "")
	f.Add(api.Int, false, 1, uint64(1)<<63, "")
	f.Add(api.Real, false, 0, uint64(0xfff8000000000000), "")
	f.Add(api.Text, false, 0, uint64(0), "a\x7f")
	f.Fuzz(func(t *testing.T, kind int, b bool, n int, fb uint64, s string) {
		v := api.Val{Kind: kind, B: b, N: n, F: from(fb), T: s}
		wantIs(t, v, valid(v))
		if !value.Same(v, v) {
			t.Errorf("Same(%#v) with itself = false", v)
		}
		for _, w := range rising() {
			if valid(v) && (value.Same(v, w) != identical(v, w) || value.Cmp(v, w) != -value.Cmp(w, v)) {
				t.Errorf("Cmp(%#v, %#v) = %d, %d the other way", v, w, value.Cmp(v, w), value.Cmp(w, v))
			}
		}
	})
}

// valid says what Is reports, field by field instead of kind by kind.
func valid(v api.Val) bool {
	outside := func(r rune) bool { return r < ' ' || r > '~' }
	return v.Kind >= api.Null && v.Kind <= api.Text &&
		(v.Kind == api.Bool || !v.B) &&
		(v.Kind == api.Int || v.N == 0) &&
		(v.Kind == api.Real || bits(v.F) == 0) &&
		(v.F == v.F || bits(v.F) == canonical) &&
		(v.Kind == api.Text || v.T == "") &&
		len(v.T) <= api.MaxText && !strings.ContainsFunc(v.T, outside)
}
