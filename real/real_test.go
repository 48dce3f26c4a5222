package real_test

import (
	"fmt"
	"math"
	"slices"
	"strings"
	"testing"

	"ligature/real"
)

const canonical = 0x7ff8000000000000

var (
	bits     = math.Float64bits
	from     = math.Float64frombits
	negZero  = math.Copysign(0, -1)
	posInf   = math.Inf(1)
	negInf   = math.Inf(-1)
	smallest = math.SmallestNonzeroFloat64
)

// nans has NaNs of both signs, quiet and signalling, with small, large and single-bit payloads.
func nans() []float64 {
	var l []float64
	for _, sign := range []uint64{0, 1 << 63} {
		for i := range 52 {
			l = append(l, from(sign|0x7ff<<52|1<<i))
			l = append(l, from(sign|0x7ff<<52|(1<<(i+1)-1)))
		}
	}
	return append(l, math.NaN(), from(canonical))
}

// rising has numbers that are not NaNs in strictly rising order: every exponent with several mantissas.
func rising() []float64 {
	var l []float64
	for e := range uint64(0x7ff) {
		for _, m := range []uint64{0, 1, 1 << 51, 1<<52 - 1} {
			l = append(l, from(e<<52|m))
		}
	}
	l = append(l, posInf)
	down := make([]float64, 0, 2*len(l))
	for _, f := range slices.Backward(l) {
		down = append(down, -f)
	}
	return append(down, l...)
}

// P1.1

func TestNormKeepsEveryNumber(t *testing.T) {
	for _, f := range append(rising(), 0.1, -0.1, 2.5, math.Pi) {
		if got := real.Norm(f); bits(got) != bits(f) {
			t.Errorf("Norm(%016x) = %016x", bits(f), bits(got))
		}
	}
}

func TestNormMakesEveryNaNCanonical(t *testing.T) {
	for _, f := range nans() {
		if got := bits(real.Norm(f)); got != canonical {
			t.Errorf("Norm(%016x) = %016x", bits(f), got)
		}
	}
}

func TestKeyExamples(t *testing.T) {
	for _, x := range []struct {
		f    float64
		want uint64
	}{
		{0, 0x8000000000000000},
		{negZero, 0x7fffffffffffffff},
		{1, 0xbff0000000000000},
		{-1, 0x400fffffffffffff},
		{2.5, 0xc004000000000000},
		{-2.5, 0x3ffbffffffffffff},
		{smallest, 0x8000000000000001},
		{-smallest, 0x7ffffffffffffffe},
		{math.MaxFloat64, 0xffefffffffffffff},
		{-math.MaxFloat64, 0x0010000000000000},
		{posInf, 0xfff0000000000000},
		{negInf, 0x000fffffffffffff},
	} {
		if got := real.Key(x.f); got != x.want {
			t.Errorf("Key(%v) = %016x, want %016x", x.f, got, x.want)
		}
		f, ok := real.Of(x.want)
		if !ok || bits(f) != bits(x.f) {
			t.Errorf("Of(%016x) = %v, %v, want %v", x.want, f, ok, x.f)
		}
	}
}

func TestKeyOfEveryNaNIsOne(t *testing.T) {
	for _, f := range nans() {
		if got := real.Key(f); got != 0xfff8000000000000 {
			t.Errorf("Key(%016x) = %016x", bits(f), got)
		}
	}
	f, ok := real.Of(0xfff8000000000000)
	if !ok || bits(f) != canonical {
		t.Errorf("Of the Key of NaN = %016x, %v", bits(f), ok)
	}
}

func TestKeyRises(t *testing.T) {
	l := append(rising(), math.NaN())
	for i := 1; i < len(l); i++ {
		if real.Key(l[i-1]) >= real.Key(l[i]) {
			t.Errorf("Key(%v) is not less than Key(%v)", l[i-1], l[i])
		}
	}
}

// keyless has the keys beside the Keys of -Inf, +Inf and NaN, and the far ends of the ranges between them.
func keyless() []uint64 {
	l := []uint64{
		0, 1, 0x0007fffffffffffe, 0x0007ffffffffffff, 0x0008000000000000, 0x000ffffffffffffe,
		0xfff0000000000001, 0xfff4000000000000, 0xfff7ffffffffffff,
		0xfff8000000000001, 0xfffc000000000000, 0xfffffffffffffffe, 0xffffffffffffffff,
	}
	for i := range 51 {
		l = append(l, 0xfff8000000000000|1<<i, 0x000fffffffffffff&^(1<<i))
	}
	return l
}

func TestOfWithoutNumber(t *testing.T) {
	for _, k := range keyless() {
		if f, ok := real.Of(k); ok || bits(f) != 0 {
			t.Errorf("Of(%016x) = %016x, %v", k, bits(f), ok)
		}
	}
}

func TestOfHasTheKey(t *testing.T) {
	for _, k := range []uint64{0x000fffffffffffff, 0x0010000000000000, 0x0123456789abcdef, 0x7fffffffffffffff, 0x8000000000000000, 0xfedcba9876543210, 0xffefffffffffffff, 0xfff0000000000000, 0xfff8000000000000} {
		f, ok := real.Of(k)
		if !ok || real.Key(f) != k || bits(real.Norm(f)) != bits(f) {
			t.Errorf("Of(%016x) = %016x, %v", k, bits(f), ok)
		}
	}
}

func TestCmpOrder(t *testing.T) {
	l := []float64{negInf, -math.MaxFloat64, -2, -1, -smallest, negZero, 0, smallest, 1, 2, math.MaxFloat64, posInf, math.NaN()}
	for i, a := range l {
		for k, b := range l {
			want := 0
			if i < k {
				want = -1
			} else if i > k {
				want = 1
			}
			if got := real.Cmp(a, b); got != want {
				t.Errorf("Cmp(%v, %v) = %d, want %d", a, b, got, want)
			}
		}
	}
}

func TestCmpNaN(t *testing.T) {
	for _, a := range nans() {
		for _, b := range nans() {
			if got := real.Cmp(a, b); got != 0 {
				t.Errorf("Cmp(%016x, %016x) = %d", bits(a), bits(b), got)
			}
		}
		for _, b := range []float64{negInf, -1, negZero, 0, 1, posInf} {
			if real.Cmp(a, b) != 1 || real.Cmp(b, a) != -1 {
				t.Errorf("Cmp(%016x, %v) = %d, %d the other way", bits(a), b, real.Cmp(a, b), real.Cmp(b, a))
			}
		}
	}
}

// P1.2

func TestSum(t *testing.T) {
	const big = 1 << 53 // from here on, odd integers are no float64
	for i, x := range []struct {
		l    []float64
		want float64
	}{
		{nil, 0},
		{[]float64{}, 0},
		{[]float64{2.5}, 2.5},
		{[]float64{1, 2, 3.5}, 6.5},
		{[]float64{1, -1}, 0},
		{[]float64{-1, 1}, 0},
		{[]float64{0.1, 0.2}, from(0x3fd3333333333334)},
		// The 0 at the start takes the sign of a zero.
		{[]float64{negZero}, 0},
		{[]float64{negZero, negZero}, 0},
		// From left to right, each step rounded, and nothing that was lost comes back.
		{[]float64{1e16, 1, 1}, 1e16},
		{[]float64{1, 1, 1e16}, 1e16 + 2},
		{[]float64{1e100, 1, -1e100}, 0},
		{[]float64{1, 1e100, -1e100}, 0},
		{[]float64{1e100, -1e100, 1}, 1},
		// Ties to even, in both directions.
		{[]float64{big, 1}, big},
		{[]float64{big + 2, 1}, big + 4},
		{[]float64{-big, -1}, -big},
		{[]float64{-big - 2, -1}, -big - 4},
		// Subnormal numbers are not dropped.
		{[]float64{smallest, smallest}, 2 * smallest},
		{[]float64{from(0x0010000000000000), -smallest}, from(0x000fffffffffffff)},
		// Overflow stays, even if a later number would lead back.
		{[]float64{math.MaxFloat64, math.MaxFloat64, -math.MaxFloat64}, posInf},
		{[]float64{-math.MaxFloat64, -math.MaxFloat64}, negInf},
		{[]float64{math.MaxFloat64, 1}, math.MaxFloat64},
		{[]float64{posInf, 1, posInf}, posInf},
		{[]float64{1, negInf}, negInf},
	} {
		if got := real.Sum(x.l...); bits(got) != bits(x.want) {
			t.Errorf("%d: Sum(%v) = %v (%016x), want %v", i, x.l, got, bits(got), x.want)
		}
	}
}

func TestSumIsTheCanonicalNaN(t *testing.T) {
	l := [][]float64{{posInf, negInf}, {negInf, posInf}, {posInf, 1, negInf, 1}}
	for _, f := range nans() {
		l = append(l, []float64{f}, []float64{f, 1}, []float64{1, f}, []float64{f, posInf}, []float64{f, f})
	}
	for i, x := range l {
		if got := bits(real.Sum(x...)); got != canonical {
			t.Errorf("%d: Sum(%v) = %016x", i, x, got)
		}
	}
}

func TestSumLeavesItsArguments(t *testing.T) {
	whole := []float64{3, negZero, from(0xfff0000000000001), 7}
	want := []uint64{bits(3), 1 << 63, 0xfff0000000000001, bits(7)}
	real.Sum(whole[:3]...)
	for i, f := range whole {
		if bits(f) != want[i] {
			t.Errorf("element %d became %016x", i, bits(f))
		}
	}
}

func TestWeight(t *testing.T) {
	for _, f := range rising() {
		// -0 has the sign of a negative number and is valid all the same.
		want := !math.Signbit(f) || f == 0
		if got := real.Weight(f); got != want {
			t.Errorf("Weight(%v) = %v", f, got)
		}
	}
	for _, f := range []float64{0, negZero, smallest, 1, math.MaxFloat64, posInf} {
		if !real.Weight(f) {
			t.Errorf("Weight(%v) = false", f)
		}
	}
	for _, f := range append(nans(), -smallest, -1, -math.MaxFloat64, negInf) {
		if real.Weight(f) {
			t.Errorf("Weight(%016x) = true", bits(f))
		}
	}
}

func TestTextExamples(t *testing.T) {
	for _, x := range []struct {
		f    float64
		want string
	}{
		{0, "8000000000000000"},
		{negZero, "7fffffffffffffff"},
		{1, "bff0000000000000"},
		{-1, "400fffffffffffff"},
		{-math.MaxFloat64, "0010000000000000"},
		{negInf, "000fffffffffffff"},
		{posInf, "fff0000000000000"},
	} {
		if got := real.Text(x.f); got != x.want {
			t.Errorf("Text(%v) = %q, want %q", x.f, got, x.want)
		}
	}
	for _, f := range nans() {
		if got := real.Text(f); got != "fff8000000000000" {
			t.Errorf("Text(%016x) = %q", bits(f), got)
		}
	}
}

func TestTextIsTheKeyInDigits(t *testing.T) {
	for _, f := range rising() {
		got := real.Text(f)
		if got != fmt.Sprintf("%016x", real.Key(f)) || len(got) != 16 || got != strings.ToLower(got) {
			t.Errorf("Text(%v) = %q", f, got)
		}
	}
}

// P1.3

func TestOfKeyIsNorm(t *testing.T) {
	for _, f := range append(append(rising(), nans()...), 0.1, -0.1, math.Pi) {
		got, ok := real.Of(real.Key(f))
		if !ok || bits(got) != bits(real.Norm(f)) {
			t.Errorf("Of(Key(%016x)) = %016x, %v", bits(f), bits(got), ok)
		}
	}
}

func FuzzOfKey(f *testing.F) {
	for _, k := range append(keyless(), 0, 1<<63, canonical, 0xbff0000000000000, 0x000fffffffffffff) {
		f.Add(k)
	}
	f.Fuzz(func(t *testing.T, b uint64) {
		want := b
		if math.IsNaN(from(b)) {
			want = canonical
		}
		got, ok := real.Of(real.Key(from(b)))
		if !ok || bits(got) != want {
			t.Errorf("Of(Key(%016x)) = %016x, %v", b, bits(got), ok)
		}
		if g, ok := real.Of(b); ok && real.Key(g) != b || !ok && bits(g) != 0 {
			t.Errorf("Of(%016x) = %016x, %v", b, bits(g), ok)
		}
	})
}
