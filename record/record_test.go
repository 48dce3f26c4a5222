package record_test

import (
	"math"
	"slices"
	"strings"
	"testing"

	"ligature/api"
	"ligature/record"
)

const canonical = 0x7ff8000000000000

var (
	bits     = math.Float64bits
	from     = math.Float64frombits
	nan      = from(canonical)
	negZero  = math.Copysign(0, -1)
	posInf   = math.Inf(1)
	negInf   = math.Inf(-1)
	smallest = math.SmallestNonzeroFloat64
	normal   = from(1 << 52) // the least number with a full mantissa
)

func truth(b bool) api.Val     { return api.Val{Kind: api.Bool, B: b} }
func whole(n int) api.Val      { return api.Val{Kind: api.Int, N: n} }
func number(f float64) api.Val { return api.Val{Kind: api.Real, F: f} }
func text(s string) api.Val    { return api.Val{Kind: api.Text, T: s} }

func prop(key string, v api.Val) api.Prop { return api.Prop{Key: key, V: v} }

func labelled(l ...string) api.Node { return api.Node{Labels: l} }

func holding(l ...api.Prop) api.Node { return api.Node{Props: l} }

func edge(from, to int, kind string, w float64) api.Edge {
	return api.Edge{From: from, To: to, Type: kind, W: w}
}

// keyed has a property 1 for each key.
func keyed(keys ...string) api.Node {
	var n api.Node
	for _, k := range keys {
		n.Props = append(n.Props, prop(k, whole(1)))
	}
	return n
}

// badNames has strings that are no names, one for each way not to be one.
func badNames() []string {
	l := []string{"", "A", "Z", "aB", "Ba", "1", "a1", " ", "a b", " a", "a ", "a_b", "-", "`", "{", "a`", "a{", "@", "[", "\x00", "a\x00", "\x7f", "\xff", "\xe1", "abcdefghi", "zzzzzzzzz", "abcdefghI"}
	l = append(l, "\u00e4", "a\u00e4", "a\u0301", "\uff41", "\u212a", "\u017f", "\U0001f600", "\xc3", "\x80a")
	return append(l, strings.Repeat("a", 255), strings.Repeat("a", 256), strings.Repeat("a", 257), strings.Repeat("a", 264), strings.Repeat("a", 1<<16+1))
}

// goodNames has names in strictly ascending order.
func goodNames() []string {
	return []string{"a", "aa", "aaaaaaaa", "aaaaaaab", "aab", "ab", "abcdefgh", "az", "b", "ba", "m", "n", "y", "yzzzzzzz", "z", "za", "zzzzzzzy", "zzzzzzzz"}
}

// goodVals has valid values that are not Null, at the edges of every kind.
func goodVals() []api.Val {
	l := []api.Val{truth(false), truth(true)}
	for _, n := range []int{0, 1, -1, 2, 42, 63, 64, -64, -65, 8191, 8192, 1 << 32, -1 << 53, 1<<62 - 1, 1 << 62, -1 << 62, -1<<62 - 1, math.MaxInt - 1, math.MaxInt, math.MinInt, math.MinInt + 1} {
		l = append(l, whole(n))
	}
	for _, f := range []float64{0, negZero, 1, -1, 2.5, smallest, -smallest, normal, -normal, from(1<<52 - 1), math.MaxFloat64, -math.MaxFloat64, posInf, negInf, nan, 0.1} {
		l = append(l, number(f))
	}
	for _, s := range []string{"", " ", "~", "a", "A", "1", "two words", "twelve bytes", "            ", "~~~~~~~~~~~~", "\\\"'"} {
		l = append(l, text(s))
	}
	return l
}

// strangeNaNs has NaNs of both signs, quiet and signalling, all but the canonical one.
func strangeNaNs() []float64 {
	l := []float64{math.NaN(), from(canonical | 1<<63)}
	for i := range 51 {
		l = append(l, from(0x7ff<<52|1<<i), from(0xfff<<52|1<<i), from(canonical|1<<i), from(canonical|1<<63|1<<i))
	}
	return l
}

// strayVals has values that are not valid because a field is set that the Kind does not name.
func strayVals() []api.Val {
	var l []api.Val
	for _, v := range goodVals() {
		if v.Kind != api.Bool {
			stray := v
			stray.B = true
			l = append(l, stray)
		}
		if v.Kind != api.Int {
			stray := v
			stray.N = -1
			l = append(l, stray)
		}
		if v.Kind != api.Real {
			one, zero := v, v
			one.F, zero.F = 1, negZero
			l = append(l, one, zero)
		}
		if v.Kind != api.Text {
			stray := v
			stray.T = "a"
			l = append(l, stray)
		}
	}
	return l
}

// badTexts has values that are not valid because of their text.
func badTexts() []api.Val {
	var l []api.Val
	for _, s := range []string{"thirteen byte", "\x1f", "\x7f", "a\x00", "\t", "\n", "\u00e4", "\xff", "\x80", strings.Repeat("a", 256), strings.Repeat("a", 268)} {
		l = append(l, text(s))
	}
	return l
}

// nulls has values of the Kind Null, of which one is valid.
func nulls() []api.Val {
	return []api.Val{{}, {B: true}, {N: 1}, {F: 1}, {F: negZero}, {T: "a"}}
}

// strangers has values of kinds that are none.
func strangers() []api.Val {
	var l []api.Val
	for _, k := range []int{-1, -2, 5, 6, 8, 255, 256, 1<<8 | api.Text, 1<<32 | api.Int, math.MaxInt, math.MinInt} {
		l = append(l, api.Val{Kind: k}, api.Val{Kind: k, B: true}, api.Val{Kind: k, N: 1}, api.Val{Kind: k, F: 1}, api.Val{Kind: k, T: "a"})
	}
	return l
}

// badVals has values that no property of a valid node has.
func badVals() []api.Val {
	l := slices.Concat(nulls(), strangers(), strayVals(), badTexts())
	for _, f := range strangeNaNs() {
		l = append(l, number(f))
	}
	return l
}

// goodWeights has valid weights in the order of real.Cmp.
func goodWeights() []float64 {
	return []float64{negZero, 0, smallest, 2 * smallest, from(1<<52 - 1), normal, 0.1, 0.5, math.Nextafter(1, 0), 1, math.Nextafter(1, 2), 2.5, 1e300, math.Nextafter(math.MaxFloat64, 0), math.MaxFloat64, posInf}
}

// badWeights has numbers that are no weights.
func badWeights() []float64 {
	return append(strangeNaNs(), nan, -smallest, -normal, -0.1, -1, -2.5, -math.MaxFloat64, negInf)
}

// P10.1: IsName

func wantName(t *testing.T, s string, want bool) {
	t.Helper()
	if got := record.IsName(s); got != want {
		t.Errorf("IsName(%.40q) = %v, %d bytes", s, got, len(s))
	}
}

func TestIsNameOfLengths(t *testing.T) {
	for _, letter := range []string{"a", "m", "z"} {
		for _, n := range []int{0, 1, 2, 7, 8, 9, 10, 16, 255, 256, 257, 264, 1 << 16, 1<<16 + 1, 1 << 20} {
			wantName(t, strings.Repeat(letter, n), n >= 1 && n <= api.MaxName)
		}
	}
}

func TestIsNameOfEveryByteAtEveryPlace(t *testing.T) {
	for c := range 256 {
		for n := 1; n <= api.MaxName; n++ {
			for place := range n {
				for _, rest := range []string{"a", "z"} {
					s := []byte(strings.Repeat(rest, n))
					s[place] = byte(c)
					wantName(t, string(s), c >= 'a' && c <= 'z')
				}
			}
		}
	}
}

func TestIsNameCountsBytes(t *testing.T) {
	// Fewer letters than MaxName, and as many bytes as MaxName.
	wantName(t, "\u00e4\u00e4\u00e4\u00e4", false)
	// As many letters as MaxName, and more bytes.
	wantName(t, strings.Repeat("\u00e4", api.MaxName), false)
	wantName(t, "abcdefg\u00e4", false)
}

func TestIsNameOfNamesAndOthers(t *testing.T) {
	for _, s := range goodNames() {
		wantName(t, s, true)
	}
	for _, s := range badNames() {
		wantName(t, s, false)
	}
}

// P10.1: IsNode

func wantNode(t *testing.T, n api.Node, want bool) {
	t.Helper()
	if got := record.IsNode(n); got != want {
		t.Errorf("IsNode(%+.300v) = %v", n, got)
	}
}

func TestIsNodeOfNothing(t *testing.T) {
	wantNode(t, api.Node{}, true)
	wantNode(t, api.Node{Labels: []string{}}, true)
	wantNode(t, api.Node{Props: []api.Prop{}}, true)
	wantNode(t, api.Node{Labels: []string{}, Props: []api.Prop{}}, true)
}

func TestIsNodeOfNumbersOfElements(t *testing.T) {
	names := []string{"a", "b", "c", "d", "e", "f", "g", "h"}
	for labels := range names {
		for props := range names {
			n := keyed(names[:props]...)
			n.Labels = names[:labels]
			wantNode(t, n, labels <= api.MaxLabels && props <= api.MaxProps)
		}
	}
}

func TestIsNodeOfVeryManyElements(t *testing.T) {
	var l []string
	for i := range 26 * 26 * 26 {
		l = append(l, string([]byte{byte('a' + i/676), byte('a' + i/26%26), byte('a' + i%26)}))
	}
	// 256 and 259 would be few if they were counted in a byte.
	for _, n := range []int{255, 256, 257, 259, len(l)} {
		wantNode(t, labelled(l[:n]...), false)
		wantNode(t, keyed(l[:n]...), false)
	}
}

func TestIsNodeOfEveryOrderOfTwo(t *testing.T) {
	l := goodNames()
	for i, a := range l {
		wantNode(t, labelled(a), true)
		wantNode(t, keyed(a), true)
		for k, b := range l {
			wantNode(t, labelled(a, b), i < k)
			wantNode(t, keyed(a, b), i < k)
		}
	}
}

func TestIsNodeOfEveryOrderOfThree(t *testing.T) {
	l := []string{"a", "aa", "b", "ba", "z"}
	for i, a := range l {
		for k, b := range l {
			for m, c := range l {
				wantNode(t, labelled(a, b, c), i < k && k < m)
				wantNode(t, keyed(a, b, c), i < k && k < m)
			}
		}
	}
}

func TestIsNodeTellsLabelsFromKeys(t *testing.T) {
	n := keyed("a", "b", "c")
	n.Labels = []string{"a", "b", "c"}
	wantNode(t, n, true)
	n.Labels = []string{"x", "y", "z"}
	wantNode(t, n, true)
	n = keyed("x")
	n.Labels = []string{"x", "y"}
	wantNode(t, n, true)
}

func TestIsNodeNotWithBadNames(t *testing.T) {
	for _, bad := range badNames() {
		wantNode(t, labelled(bad), false)
		wantNode(t, keyed(bad), false)
		for _, others := range [][]string{{"b"}, {"b", "n"}, {"a", "aa"}, {"zzzzzzzy", "zzzzzzzz"}} {
			l := slices.Sorted(slices.Values(append(others, bad)))
			wantNode(t, labelled(l...), false)
			wantNode(t, keyed(l...), false)
		}
	}
}

func TestIsNodeOfValues(t *testing.T) {
	for _, v := range goodVals() {
		for _, key := range []string{"a", "b", "c"} {
			wantNode(t, withVal(key, v), true)
		}
	}
	for _, v := range badVals() {
		wantNode(t, holding(prop("a", v)), false)
		for _, key := range []string{"a", "b", "c"} {
			wantNode(t, withVal(key, v), false)
		}
	}
}

// withVal has three properties, and the value is that of the one of this key.
func withVal(key string, v api.Val) api.Node {
	n := keyed("a", "b", "c")
	for i := range n.Props {
		if n.Props[i].Key == key {
			n.Props[i].V = v
		}
	}
	return n
}

// P10.1: IsEdge

func wantEdge(t *testing.T, e api.Edge, want bool) {
	t.Helper()
	if got := record.IsEdge(e); got != want {
		t.Errorf("IsEdge(%+.300v) = %v", e, got)
	}
}

func TestIsEdgeOfEnds(t *testing.T) {
	ends := []int{math.MinInt, -256, -24, -2, -1, 0, 1, 2, 12, 23, api.MaxNodes, api.MaxNodes + 1, api.MaxNodes + 2, 32, 33, 256, 257, 1 << 32, 1<<32 + 1, math.MaxInt}
	in := func(n int) bool { return n >= 1 && n <= api.MaxNodes }
	for _, from := range ends {
		for _, to := range ends {
			wantEdge(t, edge(from, to, "t", 1), in(from) && in(to))
		}
	}
	for from := range api.MaxNodes + 2 {
		for to := range api.MaxNodes + 2 {
			wantEdge(t, edge(from, to, "t", 1), in(from) && in(to))
		}
	}
}

func TestIsEdgeOfTypes(t *testing.T) {
	for _, s := range goodNames() {
		wantEdge(t, edge(1, 2, s, 1), true)
	}
	for _, s := range badNames() {
		wantEdge(t, edge(1, 2, s, 1), false)
	}
}

func TestIsEdgeOfWeights(t *testing.T) {
	for _, w := range goodWeights() {
		wantEdge(t, edge(2, 1, "t", w), true)
	}
	for _, w := range badWeights() {
		wantEdge(t, edge(2, 1, "t", w), false)
	}
}

func TestIsEdgeOfEveryExponent(t *testing.T) {
	for e := range uint64(0x7ff) {
		wantEdge(t, edge(1, 1, "t", from(e<<52|1)), true)
		wantEdge(t, edge(1, 1, "t", from(1<<63|e<<52|1)), false)
	}
}

func TestIsEdgeNotOfNothing(t *testing.T) {
	wantEdge(t, api.Edge{}, false)
	wantEdge(t, api.Edge{From: 1, To: 2}, false)
	wantEdge(t, api.Edge{From: 1, Type: "t"}, false)
	wantEdge(t, api.Edge{To: 1, Type: "t"}, false)
}

// P10.1: Same and SameEdge

// differentNodes has nodes of which no two are the same. Not all of them are valid.
func differentNodes() []api.Node {
	l := []api.Node{{}, labelled("a"), labelled("b"), labelled("ab"), labelled(""), labelled("a", "b"), labelled("b", "a"), labelled("a", "a"), labelled("a", "b", "c"), labelled("a", "", "b"), labelled("a", "b", "c", "d"), labelled("A")}
	l = append(l, keyed("a"), keyed("b"), keyed(""), keyed("ab"), keyed("a", "b"), keyed("b", "a"), keyed("a", "a"), keyed("a", "b", "c"), keyed("a", "b", "d"), keyed("a", "b", "c", "d"))
	both := keyed("a")
	both.Labels = []string{"a"}
	l = append(l, both)
	for _, v := range slices.Concat(goodVals(), nulls(), strangers(), strayVals(), badTexts()) {
		if v != whole(1) {
			l = append(l, holding(prop("a", v)))
		}
	}
	return append(l, withVal("a", whole(2)), withVal("b", whole(2)), withVal("c", whole(2)))
}

func wantSame(t *testing.T, a, b api.Node, want bool) {
	t.Helper()
	if got := record.Same(a, b); got != want {
		t.Errorf("Same(%+.300v, %+.300v) = %v", a, b, got)
	}
}

func TestSameOfEveryPair(t *testing.T) {
	l, again := differentNodes(), differentNodes()
	for i, a := range l {
		for k, b := range again {
			wantSame(t, a, b, i == k)
		}
	}
}

func TestSameOfNilAndEmpty(t *testing.T) {
	empty := []api.Node{{}, {Labels: []string{}}, {Props: []api.Prop{}}, {Labels: []string{}, Props: []api.Prop{}}, {Labels: make([]string, 0, 3), Props: make([]api.Prop, 0, 3)}}
	for _, a := range empty {
		for _, b := range empty {
			wantSame(t, a, b, true)
		}
		wantSame(t, a, labelled(""), false)
		wantSame(t, labelled(""), a, false)
		wantSame(t, a, holding(api.Prop{}), false)
		wantSame(t, holding(api.Prop{}), a, false)
	}
	for _, a := range []api.Node{{Labels: []string{"a"}}, {Labels: []string{"a"}, Props: []api.Prop{}}} {
		wantSame(t, a, labelled("a"), true)
		wantSame(t, labelled("a"), a, true)
	}
	for _, a := range []api.Node{keyed("a"), {Labels: []string{}, Props: keyed("a").Props}} {
		wantSame(t, a, keyed("a"), true)
		wantSame(t, keyed("a"), a, true)
	}
}

func TestSameLooksAtOneFieldOfAValue(t *testing.T) {
	base := api.Val{Kind: api.Int, B: true, N: 7, F: 2.5, T: "t"}
	for _, set := range []func(v *api.Val){
		func(v *api.Val) { v.Kind = api.Text }, func(v *api.Val) { v.Kind = -1 }, func(v *api.Val) { v.B = false },
		func(v *api.Val) { v.N = 8 }, func(v *api.Val) { v.F = -2.5 }, func(v *api.Val) { v.F = nan }, func(v *api.Val) { v.T = "T" },
		func(v *api.Val) { v.T = "" }, func(v *api.Val) { v.T = "t " }, func(v *api.Val) { v.N = 7 + 1<<32 },
	} {
		other := base
		set(&other)
		wantSame(t, holding(prop("a", base)), holding(prop("a", base)), true)
		wantSame(t, holding(prop("a", base)), holding(prop("a", other)), false)
		wantSame(t, holding(prop("a", other)), holding(prop("a", base)), false)
		wantSame(t, withVal("c", base), withVal("c", other), false)
	}
}

func TestSameComparesFloatsByTheirOrder(t *testing.T) {
	for _, k := range []int{api.Real, api.Int, api.Null, api.Text, 9} {
		with := func(f float64) api.Node { return holding(prop("a", api.Val{Kind: k, F: f})) }
		for _, a := range append(strangeNaNs(), nan) {
			wantSame(t, with(a), with(nan), true)
			wantSame(t, with(math.NaN()), with(a), true)
			wantSame(t, with(a), with(posInf), false)
			wantSame(t, with(0), with(a), false)
		}
		wantSame(t, with(0), with(negZero), false)
		wantSame(t, with(negZero), with(0), false)
		wantSame(t, with(negZero), with(negZero), true)
		wantSame(t, with(1), with(math.Nextafter(1, 2)), false)
		wantSame(t, with(smallest), with(0), false)
		wantSame(t, with(posInf), with(negInf), false)
		wantSame(t, with(posInf), with(math.MaxFloat64), false)
	}
}

// differentEdges has edges of which no two are the same. Not all of them are valid.
func differentEdges() []api.Edge {
	l := []api.Edge{{}, edge(1, 2, "t", 1), edge(2, 1, "t", 1), edge(1, 1, "t", 1), edge(2, 2, "t", 1), edge(3, 2, "t", 1), edge(1, 3, "t", 1), edge(1, 2, "u", 1), edge(1, 2, "", 1), edge(1, 2, "T", 1), edge(1, 2, "tt", 1), edge(-1, 2, "t", 1), edge(1, -2, "t", 1), edge(1<<32+1, 2, "t", 1), edge(1, 1<<32+2, "t", 1)}
	for _, w := range append(goodWeights(), -smallest, -1, -math.MaxFloat64, negInf, nan) {
		if w != 1 {
			l = append(l, edge(1, 2, "t", w))
		}
	}
	return append(l, api.Edge{From: 1}, api.Edge{To: 1}, api.Edge{Type: "t"}, api.Edge{W: 1}, api.Edge{W: negZero}, api.Edge{W: nan})
}

func wantSameEdge(t *testing.T, a, b api.Edge, want bool) {
	t.Helper()
	if got := record.SameEdge(a, b); got != want {
		t.Errorf("SameEdge(%+.300v, %+.300v) = %v", a, b, got)
	}
}

func TestSameEdgeOfEveryPair(t *testing.T) {
	l := differentEdges()
	for i, a := range l {
		for k, b := range l {
			wantSameEdge(t, a, b, i == k)
		}
	}
}

func TestSameEdgeComparesFloatsByTheirOrder(t *testing.T) {
	with := func(w float64) api.Edge { return edge(1, 2, "t", w) }
	for _, w := range append(strangeNaNs(), nan) {
		wantSameEdge(t, with(w), with(nan), true)
		wantSameEdge(t, with(math.NaN()), with(w), true)
		wantSameEdge(t, with(w), with(posInf), false)
		wantSameEdge(t, with(0), with(w), false)
	}
	wantSameEdge(t, with(0), with(negZero), false)
	wantSameEdge(t, with(negZero), with(0), false)
	wantSameEdge(t, with(negZero), with(negZero), true)
}

// P10.1: Get and Has

func wantGet(t *testing.T, n api.Node, key string, want api.Val, is bool) {
	t.Helper()
	got, ok := record.Get(n, key)
	if ok != is || !identicalVal(got, want) {
		t.Errorf("Get(%+.300v, %.40q) = %+v, %v, want %+v, %v", n, key, got, ok, want, is)
	}
}

func TestGetFindsEveryKey(t *testing.T) {
	n := holding(prop("a", whole(5)), prop("ab", text("x")), prop("b", truth(true)))
	n.Labels = []string{"label"}
	wantGet(t, n, "a", whole(5), true)
	wantGet(t, n, "ab", text("x"), true)
	wantGet(t, n, "b", truth(true), true)
}

func TestGetReturnsEveryValueAsItIs(t *testing.T) {
	// Those that are not valid are returned as well, with the bits of their NaNs.
	for _, v := range slices.Concat(goodVals(), badVals()) {
		wantGet(t, withVal("b", v), "b", v, true)
		wantGet(t, withVal("b", v), "a", whole(1), true)
		wantGet(t, withVal("b", v), "d", api.Val{}, false)
	}
}

func TestGetFindsNothingElse(t *testing.T) {
	n := holding(prop("a", whole(5)), prop("abc", text("x")))
	n.Labels = []string{"label"}
	for _, key := range []string{"", "b", "ab", "abcd", "A", "label", "x", "5", "a ", "\x00", "a\x00", strings.Repeat("a", 1<<16)} {
		wantGet(t, n, key, api.Val{}, false)
		wantGet(t, api.Node{}, key, api.Val{}, false)
		wantGet(t, api.Node{Props: []api.Prop{}}, key, api.Val{}, false)
	}
}

func TestGetTakesTheFirst(t *testing.T) {
	n := holding(prop("b", whole(1)), prop("a", whole(2)), prop("a", whole(3)), prop("b", whole(4)), prop("", whole(5)), prop("", whole(6)), prop("c", api.Val{}), prop("c", whole(7)))
	wantGet(t, n, "a", whole(2), true)
	wantGet(t, n, "b", whole(1), true)
	wantGet(t, n, "", whole(5), true)
	wantGet(t, n, "c", api.Val{}, true)
}

func wantHas(t *testing.T, n api.Node, label string, want bool) {
	t.Helper()
	if got := record.Has(n, label); got != want {
		t.Errorf("Has(%+.300v, %.40q) = %v", n, label, got)
	}
}

func TestHas(t *testing.T) {
	n := holding(prop("key", text("val")))
	n.Labels = []string{"a", "abc", "b"}
	for _, s := range n.Labels {
		wantHas(t, n, s, true)
	}
	for _, s := range []string{"", "ab", "abcd", "c", "A", "key", "val", "a ", "a\x00", strings.Repeat("a", 1<<16)} {
		wantHas(t, n, s, false)
		wantHas(t, api.Node{}, s, false)
		wantHas(t, api.Node{Labels: []string{}}, s, false)
	}
}

func TestHasOfLabelsThatAreNotValid(t *testing.T) {
	n := labelled("b", "", "a", "B c", "a", strings.Repeat("x", 1000))
	for _, s := range n.Labels {
		wantHas(t, n, s, true)
	}
	wantHas(t, n, "c", false)
	wantHas(t, n, strings.Repeat("x", 999), false)
}
