package leb_test

import (
	"bytes"
	"encoding/binary"
	"math"
	"slices"
	"strings"
	"testing"

	"ligature/leb"
	"ligature/real"
)

const canonical = 0x7ff8000000000000

var (
	bits    = math.Float64bits
	from    = math.Float64frombits
	negZero = math.Copysign(0, -1)
	posInf  = math.Inf(1)
	negInf  = math.Inf(-1)
)

// integers has ordinary integers and those on both sides of each further byte and of each bit.
func integers() []int {
	l := []int{0, 3, 5, 10, 42, 100, 300, 1000, 65535, 123456789, -7, -100, -300, -123456789, math.MaxInt, math.MaxInt - 1, math.MinInt, math.MinInt + 1}
	for i := range 63 {
		p := 1 << i
		l = append(l, p-1, p, p+1, -p-1, -p, -p+1)
	}
	return l
}

// texts has ordinary strings, strings that are no UTF-8, and lengths on both sides of each further byte of the length.
func texts() []string {
	l := []string{"", "a", "hello", "\x00", "\xff", "\x80\x00", "naïve", "a\x00b", "\x02a"}
	for _, n := range []int{2, 62, 63, 64, 65, 127, 128, 129, 8191, 8192, 8193} {
		l = append(l, strings.Repeat("x", n))
	}
	for b := range 256 {
		l = append(l, string([]byte{byte(b)}))
	}
	return l
}

// numbers has results of real.Norm from everywhere in the order.
func numbers() []float64 {
	l := []float64{negInf, -math.MaxFloat64, -2.5, -1, -math.SmallestNonzeroFloat64, negZero, 0, math.SmallestNonzeroFloat64, 0.1, 1, 2.5, 1e300, math.MaxFloat64, posInf, from(canonical)}
	for i := range 52 {
		l = append(l, from(1<<i), from(1<<63|1<<i), from(0x3ff<<52|1<<i), from(0xbff<<52|1<<i))
	}
	return l
}

// strangeNaNs has NaNs of both signs, quiet and signalling, all but the canonical one.
func strangeNaNs() []float64 {
	l := []float64{math.NaN(), from(canonical | 1<<63)}
	for i := range 51 {
		l = append(l, from(0x7ff<<52|1<<i), from(0xfff<<52|1<<i), from(canonical|1<<i), from(canonical|1<<63|1<<i))
	}
	return l
}

// prefixes has byte slices to append to, some with unused capacity.
func prefixes() [][]byte {
	room := append(make([]byte, 0, 100), "with room"...)
	return [][]byte{nil, {}, {0}, {0x80}, []byte("prefix"), bytes.Repeat([]byte{0xff}, 1000), room, room[:0], room[:4]}
}

func wantBytes(t *testing.T, what any, got, want []byte) {
	t.Helper()
	if !bytes.Equal(got, want) {
		t.Errorf("%#v: got % x, want % x", what, got, want)
	}
}

func join(l ...[]byte) []byte { return slices.Concat(l...) }

func keyOf(k uint64) []byte { return binary.BigEndian.AppendUint64(nil, k) }

// P3.1

// smallInts has encodings that are written out, those of the document's table among them.
func smallInts() map[int][]byte {
	return map[int][]byte{
		0: {0x00}, -1: {0x01}, 1: {0x02}, 64: {0x80, 0x01},
		-2: {0x03}, 2: {0x04}, 63: {0x7e}, -64: {0x7f}, -65: {0x81, 0x01}, 65: {0x82, 0x01}, -66: {0x83, 0x01},
		300: {0xd8, 0x04}, 8191: {0xfe, 0x7f}, -8192: {0xff, 0x7f}, 8192: {0x80, 0x80, 0x01}, -8193: {0x81, 0x80, 0x01},
		1<<20 - 1: {0xfe, 0xff, 0x7f}, -1 << 20: {0xff, 0xff, 0x7f}, 1 << 20: {0x80, 0x80, 0x80, 0x01},
		1<<62 - 1: {0xfe, 0xff, 0xff, 0xff, 0xff, 0xff, 0xff, 0xff, 0x7f},
		-1 << 62:  {0xff, 0xff, 0xff, 0xff, 0xff, 0xff, 0xff, 0xff, 0x7f},
		1 << 62:   {0x80, 0x80, 0x80, 0x80, 0x80, 0x80, 0x80, 0x80, 0x80, 0x01},
		1<<63 - 1: {0xfe, 0xff, 0xff, 0xff, 0xff, 0xff, 0xff, 0xff, 0xff, 0x01},
		-1 << 63:  {0xff, 0xff, 0xff, 0xff, 0xff, 0xff, 0xff, 0xff, 0xff, 0x01},
	}
}

func TestIntWritesTheWrittenOutBytes(t *testing.T) {
	for n, want := range smallInts() {
		wantBytes(t, n, leb.Int(nil, n), want)
	}
}

func TestIntWritesVarints(t *testing.T) {
	for _, n := range integers() {
		wantBytes(t, n, leb.Int(nil, n), binary.AppendVarint(nil, int64(n)))
	}
	for n := -20000; n <= 20000; n++ {
		wantBytes(t, n, leb.Int(nil, n), binary.AppendVarint(nil, int64(n)))
	}
}

func TestIntTakesOneByteMoreEverySevenBits(t *testing.T) {
	for size := 1; size <= 9; size++ {
		past := 1 << (7*size - 1)
		for n, want := range map[int]int{past - 1: size, -past: size, past: size + 1, -past - 1: size + 1} {
			if got := len(leb.Int(nil, n)); got != want {
				t.Errorf("%d takes %d bytes, want %d", n, got, want)
			}
		}
	}
}

func TestStrWritesLengthAndBytes(t *testing.T) {
	for s, want := range map[string]string{"": "\x00", "a": "\x02a", "hi": "\x04hi", "\xff": "\x02\xff", "\x00": "\x02\x00", "ä": "\x04\xc3\xa4"} {
		wantBytes(t, s, leb.Str(nil, s), []byte(want))
	}
	for _, s := range texts() {
		wantBytes(t, s, leb.Str(nil, s), join(binary.AppendVarint(nil, int64(len(s))), []byte(s)))
	}
	for n := range 300 {
		s := strings.Repeat("\xfe", n)
		wantBytes(t, n, leb.Str(nil, s), join(binary.AppendVarint(nil, int64(n)), []byte(s)))
	}
}

func TestRealWritesKeys(t *testing.T) {
	for want, f := range map[uint64]float64{
		0x8000000000000000: 0, 0x7fffffffffffffff: negZero, 0xbff0000000000000: 1, 0x400fffffffffffff: -1,
		0xfff0000000000000: posInf, 0x000fffffffffffff: negInf, 0xfff8000000000000: math.NaN(), 0x8000000000000001: from(1),
	} {
		wantBytes(t, f, leb.Real(nil, f), keyOf(want))
	}
	for _, f := range numbers() {
		wantBytes(t, f, leb.Real(nil, f), keyOf(real.Key(f)))
	}
	for _, f := range strangeNaNs() {
		wantBytes(t, bits(f), leb.Real(nil, f), keyOf(0xfff8000000000000))
	}
	// Eight different bytes tell their order.
	f, _ := real.Of(0x8123456789abcdef)
	wantBytes(t, f, leb.Real(nil, f), []byte{0x81, 0x23, 0x45, 0x67, 0x89, 0xab, 0xcd, 0xef})
}

func TestNothingToEncodeYieldsThePrefix(t *testing.T) {
	for _, p := range prefixes() {
		wantBytes(t, p, leb.Int(p), p)
		wantBytes(t, p, leb.Str(p), p)
		wantBytes(t, p, leb.Real(p), p)
		wantBytes(t, p, leb.Int(p, []int{}...), p)
		wantBytes(t, p, leb.Str(p, []string{}...), p)
		wantBytes(t, p, leb.Real(p, []float64{}...), p)
	}
}

func TestEncodingsFollowThePrefixInOrder(t *testing.T) {
	for _, p := range prefixes() {
		wantBytes(t, p, leb.Int(p, 64), join(p, []byte{0x80, 1}))
		wantBytes(t, p, leb.Str(p, "hi"), join(p, []byte("\x04hi")))
		wantBytes(t, p, leb.Real(p, 1), join(p, keyOf(0xbff0000000000000)))
		wantBytes(t, p, leb.Int(p, 1, -1, 64, 0, 1), join(p, []byte{2, 1, 0x80, 1, 0, 2}))
		wantBytes(t, p, leb.Str(p, "b", "", "ab", "b"), join(p, []byte("\x02b\x00\x04ab\x02b")))
		wantBytes(t, p, leb.Real(p, 1, negZero, 1), join(p, keyOf(0xbff0000000000000), keyOf(0x7fffffffffffffff), keyOf(0xbff0000000000000)))
	}
}

// P3.2

// takers has the methods that decode, each telling whether it returned the zero value.
func takers() map[string]func(c *leb.Cursor) bool {
	return map[string]func(c *leb.Cursor) bool{
		"Int":  func(c *leb.Cursor) bool { return c.Int() == 0 },
		"Str":  func(c *leb.Cursor) bool { return c.Str() == "" },
		"Real": func(c *leb.Cursor) bool { return bits(c.Real()) == 0 },
	}
}

// wantFailed asks every method of a Cursor that has failed, in every order of two.
func wantFailed(t *testing.T, what any, c *leb.Cursor) {
	t.Helper()
	for first, take := range takers() {
		for second, next := range takers() {
			if c.Good() || c.Whole() {
				t.Errorf("%#v: Good %v, Whole %v after a failure", what, c.Good(), c.Whole())
			}
			if !take(c) || !next(c) {
				t.Errorf("%#v: %s and %s are not zero after a failure", what, first, second)
			}
		}
	}
}

// wantFails has the method named decode x alone and behind what can be decoded.
func wantFails(t *testing.T, name string, x []byte) {
	t.Helper()
	take := takers()[name]
	c := leb.Open(x)
	if !c.Good() || c.Whole() != (len(x) == 0) {
		t.Errorf("% x: Good %v, Whole %v at the beginning", x, c.Good(), c.Whole())
	}
	if !take(c) {
		t.Errorf("%s of % x is not zero", name, x)
	}
	wantFailed(t, x, c)
	c = leb.Open(join(leb.Real(leb.Str(leb.Int(nil, 300), "abc"), 2.5), x))
	if c.Int() != 300 || c.Str() != "abc" || c.Real() != 2.5 || !c.Good() || c.Whole() != (len(x) == 0) {
		t.Errorf("% x: what comes ahead of it is not decoded", x)
	}
	if !take(c) {
		t.Errorf("%s of % x behind others is not zero", name, x)
	}
	wantFailed(t, x, c)
}

// behind has bytes that a Cursor must not reach after a failure: nothing, values of each kind, and much.
func behind() [][]byte {
	return [][]byte{nil, {2}, {0}, {2, 'a'}, leb.Real(nil, 1), bytes.Repeat([]byte{2}, 50)}
}

func wantFailsBefore(t *testing.T, name string, x []byte) {
	t.Helper()
	for _, b := range behind() {
		wantFails(t, name, join(x, b))
	}
}

func TestCursorAtItsEnds(t *testing.T) {
	for _, b := range [][]byte{nil, {}} {
		c := leb.Open(b)
		for range 3 {
			if c == nil || !c.Good() || !c.Whole() {
				t.Fatalf("%#v: a Cursor of nothing is not whole", b)
			}
		}
	}
	c := leb.Open([]byte{2, 4})
	for i, want := range []int{1, 2} {
		for range 3 {
			if !c.Good() || c.Whole() {
				t.Errorf("ahead of integer %d: Good %v, Whole %v", i, c.Good(), c.Whole())
			}
		}
		if n := c.Int(); n != want {
			t.Errorf("integer %d is %d, want %d", i, n, want)
		}
	}
	for range 3 {
		if !c.Good() || !c.Whole() {
			t.Errorf("at the end: Good %v, Whole %v", c.Good(), c.Whole())
		}
	}
	if n := c.Int(); n != 0 {
		t.Errorf("past the end: %d", n)
	}
	wantFailed(t, "past the end", c)
}

func TestNothingRemainsFails(t *testing.T) {
	for name := range takers() {
		wantFails(t, name, nil)
	}
}

func TestCutEncodingsFail(t *testing.T) {
	for _, n := range integers() {
		wantCutFails(t, "Int", leb.Int(nil, n))
	}
	for _, s := range []string{"", "a", "hello", strings.Repeat("x", 63), strings.Repeat("x", 64), strings.Repeat("\x00", 130)} {
		wantCutFails(t, "Str", leb.Str(nil, s))
	}
	for _, f := range numbers() {
		wantCutFails(t, "Real", leb.Real(nil, f))
	}
}

func wantCutFails(t *testing.T, name string, whole []byte) {
	t.Helper()
	for i := range whole {
		wantFails(t, name, slices.Clone(whole[:i]))
		// The missing bytes are in the unused capacity, where nobody may look.
		wantFails(t, name, whole[:i])
		if c := leb.Open(whole[:i]); !takers()[name](c) || c.Good() {
			t.Errorf("%s of % x reads unused capacity", name, whole[:i])
		}
	}
}

func TestLongerThanNecessaryFails(t *testing.T) {
	for _, n := range integers() {
		b := leb.Int(nil, n)
		b[len(b)-1] |= 0x80
		for range 12 {
			wantFails(t, "Int", join(b, []byte{0}))
			wantFails(t, "Str", join(b, []byte{0}))
			b = append(b, 0x80)
		}
	}
	for _, x := range [][]byte{{0x80, 0}, {0x81, 0}, {0x82, 0}, {0xff, 0}, {0x80, 0x80, 0}, {0x81, 0x80, 0}, {0x80, 0x81, 0}, {0xff, 0xff, 0}} {
		wantFailsBefore(t, "Int", x)
		wantFailsBefore(t, "Str", x)
	}
}

func TestMoreThan64BitsFail(t *testing.T) {
	for _, fill := range []byte{0x80, 0x81, 0xfe, 0xff} {
		nine := bytes.Repeat([]byte{fill}, 9)
		for last := range 256 {
			if last != 1 {
				wantFails(t, "Int", append(nine[:9:9], byte(last)))
				wantFails(t, "Str", append(nine[:9:9], byte(last)))
			}
			for _, more := range []byte{0, 1, 2, 0x7f} {
				wantFails(t, "Int", append(nine[:9:9], byte(last|0x80), more))
			}
		}
		for size := 11; size < 80; size++ {
			wantFails(t, "Int", append(bytes.Repeat([]byte{fill}, size-1), 1))
			wantFails(t, "Int", bytes.Repeat([]byte{fill}, size))
		}
		wantFailsBefore(t, "Int", append(nine[:9:9], 2))
		wantFailsBefore(t, "Int", append(nine[:9:9], 0x81, 1))
	}
}

func TestNegativeLengthFails(t *testing.T) {
	for _, n := range integers() {
		if n < 0 {
			wantFails(t, "Str", leb.Int(nil, n))
			wantFails(t, "Str", join(leb.Int(nil, n), bytes.Repeat([]byte{'a'}, 100)))
		}
	}
	for n := -70; n < 0; n++ {
		wantFailsBefore(t, "Str", leb.Int(nil, n))
	}
}

func TestLengthBeyondWhatRemainsFails(t *testing.T) {
	for size := range 140 {
		rest := bytes.Repeat([]byte{'a'}, size)
		for _, n := range []int{size + 1, size + 2, size + 64, 1 << 31, 1 << 32, 1 << 62, math.MaxInt - 1, math.MaxInt} {
			wantFails(t, "Str", join(leb.Int(nil, n), rest))
		}
		c := leb.Open(join(leb.Int(nil, size), rest))
		if s := c.Str(); s != string(rest) || !c.Whole() {
			t.Errorf("%d bytes that are there are not taken", size)
		}
	}
}

func TestBytesThatAreNoKeyFail(t *testing.T) {
	none := []uint64{0, 1, 0x000ffffffffffffe, 0xfff0000000000001, 0xfff7ffffffffffff, 0xfff8000000000001, 0xffffffffffffffff}
	for _, f := range strangeNaNs() {
		if bits(f)>>63 != 0 {
			none = append(none, ^bits(f))
		} else {
			none = append(none, bits(f)|1<<63)
		}
	}
	for _, k := range none {
		wantFailsBefore(t, "Real", keyOf(k))
	}
	for k, want := range map[uint64]float64{0x000fffffffffffff: negInf, 0x0010000000000000: -math.MaxFloat64, 0xffefffffffffffff: math.MaxFloat64, 0xfff0000000000000: posInf, 0xfff8000000000000: from(canonical)} {
		c := leb.Open(keyOf(k))
		if f := c.Real(); bits(f) != bits(want) || !c.Whole() {
			t.Errorf("Key %x: %v, want %v", k, f, want)
		}
	}
}

func TestFailureWithoutRemainingBytesIsNotWhole(t *testing.T) {
	c := leb.Open([]byte{2})
	c.Int()
	c.Str()
	wantFailed(t, "the end", c)
}

// P3.3

func TestDecodingYieldsWhatWasEncoded(t *testing.T) {
	for _, n := range integers() {
		c := leb.Open(leb.Int(nil, n))
		if got := c.Int(); got != n || !c.Good() || !c.Whole() {
			t.Errorf("%d: got %d", n, got)
		}
	}
	for _, s := range texts() {
		c := leb.Open(leb.Str(nil, s))
		if got := c.Str(); got != s || !c.Good() || !c.Whole() {
			t.Errorf("%q: got %q", s, got)
		}
	}
	for _, f := range append(numbers(), strangeNaNs()...) {
		c := leb.Open(leb.Real(nil, f))
		if got := c.Real(); bits(got) != bits(real.Norm(f)) || !c.Good() || !c.Whole() {
			t.Errorf("%x: got %x", bits(f), bits(got))
		}
	}
}

func TestDecodingYieldsManyAtOnce(t *testing.T) {
	c := leb.Open(leb.Real(leb.Str(leb.Int(nil, integers()...), texts()...), numbers()...))
	for i, n := range integers() {
		if got := c.Int(); got != n || c.Whole() {
			t.Errorf("integer %d: got %d, want %d", i, got, n)
		}
	}
	for i, s := range texts() {
		if got := c.Str(); got != s || c.Whole() {
			t.Errorf("string %d: got %q, want %q", i, got, s)
		}
	}
	for i, f := range numbers() {
		if c.Whole() {
			t.Errorf("whole ahead of number %d", i)
		}
		if got := c.Real(); bits(got) != bits(f) {
			t.Errorf("number %d: got %v, want %v", i, got, f)
		}
	}
	if !c.Good() || !c.Whole() {
		t.Errorf("at the end: Good %v, Whole %v", c.Good(), c.Whole())
	}
}

func TestKindsOneAfterAnother(t *testing.T) {
	var b []byte
	for i := range 100 {
		b = leb.Int(b, i-50)
		b = leb.Str(b, strings.Repeat("s", i))
		b = leb.Real(b, float64(i)/3-20)
	}
	c := leb.Open(b)
	for i := range 100 {
		if n, s, f := c.Int(), c.Str(), c.Real(); n != i-50 || s != strings.Repeat("s", i) || f != float64(i)/3-20 {
			t.Errorf("%d: got %d, %q, %v", i, n, s, f)
		}
	}
	if !c.Whole() {
		t.Error("something is left")
	}
}

// wantOnlyEncoding holds if x either fails or is what its value is encoded as.
func wantOnlyEncoding(t *testing.T, x []byte) {
	t.Helper()
	c := leb.Open(x)
	if n := c.Int(); c.Whole() {
		wantBytes(t, n, leb.Int(nil, n), x)
	}
	c = leb.Open(x)
	if s := c.Str(); c.Whole() {
		wantBytes(t, s, leb.Str(nil, s), x)
	}
	c = leb.Open(x)
	if f := c.Real(); c.Whole() {
		wantBytes(t, f, leb.Real(nil, f), x)
	}
}

func TestEveryValueHasOneEncoding(t *testing.T) {
	wantOnlyEncoding(t, nil)
	for a := range 256 {
		wantOnlyEncoding(t, []byte{byte(a)})
		for b := range 256 {
			wantOnlyEncoding(t, []byte{byte(a), byte(b)})
		}
	}
	edges := []byte{0, 1, 2, 0x40, 0x7f, 0x80, 0x81, 0xc0, 0xff}
	for _, fill := range edges {
		for size := range 10 {
			for _, a := range edges {
				for _, b := range edges {
					wantOnlyEncoding(t, append(bytes.Repeat([]byte{fill}, size), a, b))
				}
			}
		}
	}
}

// wantApart calls one encoder on a prefix with unused capacity and overwrites what it returned.
func wantApart(t *testing.T, name string, call func(b []byte) []byte) {
	t.Helper()
	room := []byte("abcdefghijklmnopqrstuvwxyz")
	for _, b := range [][]byte{room[:0], room[:1], room[:20], room, room[:5:5]} {
		first, second := call(b), call(b)
		want := slices.Clone(first)
		fill(second[:cap(second)])
		if string(room) != "abcdefghijklmnopqrstuvwxyz" {
			t.Fatalf("%s of %d bytes changes its argument or shares memory with it: %q", name, len(b), room)
		}
		wantBytes(t, name+": an earlier result", first, want)
	}
	b := slices.Clone(room)
	first := call(b)
	want := slices.Clone(first)
	fill(b)
	wantBytes(t, name+": a result whose argument is overwritten", first, want)
	longer := call(first)
	fill(longer[:cap(longer)])
	wantBytes(t, name+": a result that became an argument", first, want)
}

func fill(b []byte) {
	for i := range b {
		b[i] = '#'
	}
}

func TestEncodersShareNothing(t *testing.T) {
	wantApart(t, "Int of none", func(b []byte) []byte { return leb.Int(b) })
	wantApart(t, "Int", func(b []byte) []byte { return leb.Int(b, 1, 64, math.MinInt) })
	wantApart(t, "Str of none", func(b []byte) []byte { return leb.Str(b) })
	wantApart(t, "Str", func(b []byte) []byte { return leb.Str(b, "hi", "", "you") })
	wantApart(t, "Real of none", func(b []byte) []byte { return leb.Real(b) })
	wantApart(t, "Real", func(b []byte) []byte { return leb.Real(b, 1, negZero) })
}

func TestListsAreNotChangedAndNotKept(t *testing.T) {
	ints, strs, reals := []int{3, 1, 2, 64, -9}[:3], []string{"c", "a", "b", "x"}[:3], []float64{3, from(canonical | 1), negZero, 5}[:3]
	a, b, c := leb.Int(nil, ints...), leb.Str(nil, strs...), leb.Real(nil, reals...)
	if !slices.Equal(ints[:5], []int{3, 1, 2, 64, -9}) || !slices.Equal(strs[:4], []string{"c", "a", "b", "x"}) {
		t.Errorf("%v %v", ints[:5], strs[:4])
	}
	for i, want := range []uint64{bits(3), canonical | 1, 1 << 63, bits(5)} {
		if got := bits(reals[:4][i]); got != want {
			t.Errorf("number %d became %x", i, got)
		}
	}
	ints[0], strs[0], reals[0] = 7, "seven", 7
	wantBytes(t, "Int", a, []byte{6, 2, 4})
	wantBytes(t, "Str", b, []byte("\x02c\x02a\x02b"))
	wantBytes(t, "Real", c, join(keyOf(0xc008000000000000), keyOf(0xfff8000000000000), keyOf(0x7fffffffffffffff)))
}

func TestCursorsShareNothing(t *testing.T) {
	room := append(leb.Real(leb.Str(leb.Int(nil, 64), "hello", "you"), 2.5), "unused"...)
	before := slices.Clone(room)
	b := room[:len(room)-len("unused")]
	c, other := leb.Open(b), leb.Open(b)
	if c.Int() != 64 {
		t.Error("the first integer")
	}
	s := c.Str()
	if !bytes.Equal(room, before) {
		t.Errorf("a Cursor changed its argument: %q", room)
	}
	fill(room)
	if s != "hello" || c.Str() != "you" || c.Real() != 2.5 || !c.Whole() {
		t.Error("a Cursor follows the argument of Open")
	}
	c.Int()
	if !other.Good() || other.Int() != 64 || other.Str() != "hello" || other.Str() != "you" || other.Real() != 2.5 || !other.Whole() {
		t.Error("a Cursor follows another one")
	}
	if s != "hello" {
		t.Errorf("a string became %q", s)
	}
}

func TestCursorLeavesBytesThatFail(t *testing.T) {
	for _, x := range [][]byte{{0x80, 0, 7}, {4, 'a'}, {1, 'a'}, bytes.Repeat([]byte{0xff}, 20), keyOf(0)} {
		before := slices.Clone(x)
		for _, take := range takers() {
			take(leb.Open(x))
			wantBytes(t, "the argument of Open", x, before)
		}
	}
}

func TestNilCursor(t *testing.T) {
	var c *leb.Cursor
	wantFailed(t, "nil", c)
	if c != nil {
		t.Error("nil became something")
	}
}

// FuzzCursor decodes any bytes by the kinds that other bytes choose, and compares with what is encoded.
func FuzzCursor(f *testing.F) {
	f.Add([]byte{0, 1, 2}, leb.Real(leb.Str(leb.Int(nil, 300), "hi"), 1))
	f.Add([]byte{1}, leb.Int(nil, math.MaxInt))
	f.Add([]byte{0}, bytes.Repeat([]byte{0xff}, 12))
	f.Fuzz(func(t *testing.T, kinds, b []byte) {
		c := leb.Open(b)
		var again []byte
		for _, k := range kinds {
			next := again
			switch k % 3 {
			case 0:
				next = leb.Int(again, c.Int())
			case 1:
				next = leb.Str(again, c.Str())
			case 2:
				next = leb.Real(again, c.Real())
			}
			if !c.Good() {
				wantFailed(t, b, c)
				return
			}
			again = next
			if !bytes.HasPrefix(b, again) || c.Whole() != (len(again) == len(b)) {
				t.Fatalf("% x is decoded as % x, Whole %v", b, again, c.Whole())
			}
		}
	})
}
