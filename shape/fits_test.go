package shape_test

import (
	"math"
	"math/rand/v2"
	"slices"
	"strings"
	"testing"

	"ligature/api"
	"ligature/record"
	"ligature/shape"
)

func wantFits(t *testing.T, x api.PNode, n api.Node, want bool) {
	t.Helper()
	if got := shape.Fits(x, n); got != want {
		t.Errorf("Fits(%s, %s) = %v", short(x), short(n), got)
	}
}

// ranged asks for a value of key from lo to hi.
func ranged(key string, lo, hi api.Val) api.PNode { return api.PNode{Key: key, Lo: lo, Hi: hi} }

// holders has nodes that have v for the key k: alone, first, in the middle, last, and with labels.
func holders(v api.Val) []api.Node {
	a, z := prop("a", whole(-7)), prop("z", text("zz"))
	k := prop("k", v)
	return []api.Node{
		{Props: []api.Prop{k}},
		{Props: []api.Prop{k, prop("ka", whole(-7)), z}},
		{Props: []api.Prop{a, k, z}, Labels: []string{"k"}},
		{Props: []api.Prop{a, prop("jjjjjjjj", text("zz")), k}, Labels: []string{"a", "b", "c"}},
	}
}

// P12.2: Fits of labels

func TestFitsOfNothingAsked(t *testing.T) {
	for _, n := range []api.Node{{}, {Labels: []string{}, Props: []api.Prop{}}, {Labels: []string{"a"}}, {Labels: []string{"a", "b", "c"}}} {
		wantFits(t, api.PNode{}, n, true)
	}
	for _, v := range rising()[1:] {
		for _, n := range holders(v) {
			wantFits(t, api.PNode{}, n, true)
		}
	}
}

func TestFitsOfLabels(t *testing.T) {
	n := api.Node{Labels: []string{"ab", "abcd", "z"}, Props: []api.Prop{prop("key", text("val"))}}
	for _, s := range n.Labels {
		wantFits(t, api.PNode{Label: s}, n, true)
		wantFits(t, api.PNode{Label: s}, api.Node{Labels: []string{s}}, true)
	}
	for _, s := range []string{"a", "abc", "abcde", "b", "zz", "y", "key", "val", "abcdabcd"} {
		wantFits(t, api.PNode{Label: s}, n, false)
	}
	for _, s := range goodNames() {
		wantFits(t, api.PNode{Label: s}, api.Node{}, false)
		wantFits(t, api.PNode{Label: s}, api.Node{Labels: []string{}}, false)
		wantFits(t, api.PNode{Label: s}, api.Node{Props: []api.Prop{prop(s, text(s))}}, false)
		for _, other := range goodNames() {
			wantFits(t, api.PNode{Label: s}, api.Node{Labels: []string{other}}, s == other)
		}
	}
}

// P12.2: Fits of keys and values

func TestFitsOfEveryRange(t *testing.T) {
	l := rising()
	for i, v := range l[1:] {
		n := api.Node{Props: []api.Prop{prop("k", v)}}
		for lo := range l {
			for hi := range l {
				// Where lo comes after hi, nothing lies between.
				wantFits(t, ranged("k", l[lo], l[hi]), n, lo <= i+1 && i+1 <= hi)
			}
		}
	}
}

func TestFitsOfKeys(t *testing.T) {
	n := api.Node{Labels: []string{"l"}, Props: []api.Prop{prop("a", whole(1)), prop("ab", whole(1)), prop("c", whole(1))}}
	for _, key := range []string{"a", "ab", "c"} {
		wantFits(t, ranged(key, whole(1), whole(1)), n, true)
		wantFits(t, ranged(key, whole(2), whole(2)), n, false)
	}
	for _, key := range []string{"abc", "b", "d", "l", "aa", "cc", "abababab"} {
		wantFits(t, ranged(key, whole(1), whole(1)), n, false)
		wantFits(t, ranged(key, api.Val{}, text("~~~~~~~~~~~~")), n, false)
		wantFits(t, ranged(key, api.Val{}, api.Val{}), n, false)
	}
	for _, key := range goodNames() {
		wantFits(t, ranged(key, api.Val{}, text("~~~~~~~~~~~~")), api.Node{}, false)
		wantFits(t, ranged(key, api.Val{}, api.Val{}), api.Node{}, false)
		wantFits(t, ranged(key, api.Val{}, text("~~~~~~~~~~~~")), api.Node{Labels: []string{key}}, false)
	}
}

func TestFitsLooksAtTheValueOfItsKey(t *testing.T) {
	for place := range 3 {
		n := api.Node{}
		for i, key := range []string{"a", "b", "c"} {
			n.Props = append(n.Props, prop(key, whole(i)))
		}
		for i, key := range []string{"a", "b", "c"} {
			wantFits(t, ranged(key, whole(place), whole(place)), n, i == place)
		}
	}
}

// fiveOf has, for ends, values below the lower one, equal to it, between, equal to the upper one and
// above it, all of which are in ascending order.
func fiveOf() [][5]api.Val {
	return [][5]api.Val{
		{whole(1), whole(2), whole(3), whole(4), whole(5)},
		{whole(math.MinInt), whole(math.MinInt + 1), whole(0), whole(math.MaxInt - 1), whole(math.MaxInt)},
		{whole(9), whole(10), whole(11), whole(100), whole(101)},
		{number(negInf), number(-math.MaxFloat64), number(0), number(math.MaxFloat64), number(posInf)},
		{number(-smallest), number(negZero), number(0), number(smallest), number(1)},
		{number(1), number(2), number(3), number(posInf), number(nan)},
		{number(math.Nextafter(1, 0)), number(1), number(math.Nextafter(1, 2)), number(2), number(math.Nextafter(2, 3))},
		{text(""), text("a"), text("aa"), text("ab"), text("ab ")},
		{text("Z"), text("a"), text("b"), text("c"), text("d")},
		{text("0"), text("10"), text("2"), text("30"), text("4")},
		{truth(true), whole(-1), whole(0), number(0), text("")},
		{truth(false), truth(true), whole(0), number(negInf), number(0)},
		{whole(5), number(negInf), number(nan), text(""), text(" ")},
		{truth(true), whole(math.MinInt), whole(math.MaxInt), number(posInf), number(nan)},
	}
}

func TestFitsBelowBetweenAndAbove(t *testing.T) {
	for _, l := range fiveOf() {
		for i, v := range l {
			for _, n := range holders(v) {
				wantFits(t, ranged("k", l[1], l[3]), n, i >= 1 && i <= 3)
				wantFits(t, ranged("k", l[3], l[1]), n, false)
				wantFits(t, ranged("k", l[2], l[2]), n, i == 2)
				wantFits(t, ranged("k", v, v), n, true)
				wantFits(t, ranged("k", l[0], l[4]), n, true)
				wantFits(t, ranged("a", l[1], l[3]), holders(v)[0], false)
			}
		}
	}
}

func TestFitsOfLabelsWithKeys(t *testing.T) {
	for _, l := range fiveOf() {
		for i, v := range l {
			for _, n := range holders(v) {
				n.Labels = []string{"has", "more", "too"}
				wantBoth(t, n, l[1], l[3], i >= 1 && i <= 3)
				wantBoth(t, n, l[3], l[1], false)
			}
		}
	}
}

// wantBoth asks for each combination of a Label and a Key that are empty, that n has and that it
// has not; the node n has the label more and, if in, a value from lo to hi for the key k.
func wantBoth(t *testing.T, n api.Node, lo, hi api.Val, in bool) {
	t.Helper()
	for _, label := range []string{"", "has", "more", "too", "k", "no"} {
		labelled := label != "k" && label != "no"
		wantFits(t, api.PNode{Label: label}, n, labelled)
		wantFits(t, api.PNode{Label: label, Key: "k", Lo: lo, Hi: hi}, n, labelled && in)
		for _, key := range []string{"more", "no", "kk", "j"} {
			wantFits(t, api.PNode{Label: label, Key: key, Lo: lo, Hi: hi}, n, false)
		}
	}
}

func TestFitsOfNullEnds(t *testing.T) {
	// No valid node has a value that is Null, and every value is greater.
	for _, v := range rising()[1:] {
		for _, n := range holders(v) {
			wantFits(t, ranged("k", api.Val{}, api.Val{}), n, false)
			wantFits(t, ranged("k", v, api.Val{}), n, false)
			wantFits(t, ranged("k", api.Val{}, v), n, true)
			wantFits(t, ranged("k", api.Val{}, text("~~~~~~~~~~~~")), n, true)
			wantFits(t, ranged("k", truth(false), api.Val{}), n, false)
		}
	}
}

func TestFitsOfEdgesOfNumbers(t *testing.T) {
	for i, x := range []struct {
		v, lo, hi float64
		want      bool
	}{
		{negZero, 0, 1, false},
		{negZero, negZero, 0, true},
		{negZero, -smallest, negZero, true},
		{negZero, -1, 1, true},
		{0, -1, negZero, false},
		{0, 0, 0, true},
		{0, negZero, negZero, false},
		{0, negZero, smallest, true},
		{0, 0, negZero, false},
		{nan, negInf, posInf, false},
		{nan, negInf, nan, true},
		{nan, nan, nan, true},
		{nan, nan, posInf, false},
		{posInf, nan, nan, false},
		{posInf, negInf, math.MaxFloat64, false},
		{posInf, 0, posInf, true},
		{posInf, 0, nan, true},
		{negInf, negInf, negInf, true},
		{negInf, -math.MaxFloat64, nan, false},
		{negInf, nan, 0, false},
		{1, negInf, posInf, true},
		{1, nan, nan, false},
		{1, posInf, negInf, false},
	} {
		for _, n := range holders(number(x.v)) {
			if got := shape.Fits(ranged("k", number(x.lo), number(x.hi)), n); got != x.want {
				t.Errorf("%d: Fits(%v to %v) of %v = %v", i, x.lo, x.hi, x.v, got)
			}
		}
	}
}

func TestFitsOfTwoKinds(t *testing.T) {
	for i, x := range []struct {
		v, lo, hi api.Val
		want      bool
	}{
		{whole(1), number(1), number(1), false},
		{number(1), whole(1), whole(1), false},
		{whole(1), whole(0), number(negInf), true},
		{number(nan), whole(0), text(""), true},
		{text(""), whole(0), number(nan), false},
		{text("1"), whole(0), whole(2), false},
		{truth(true), whole(0), whole(2), false},
		{whole(1), truth(false), truth(true), false},
		{whole(math.MaxInt), truth(true), number(negInf), true},
		{number(0), text(""), whole(0), false},
		{whole(0), text(""), truth(false), false},
		{truth(false), truth(true), text(""), false},
		{truth(true), truth(true), text(""), true},
	} {
		for _, n := range holders(x.v) {
			if got := shape.Fits(ranged("k", x.lo, x.hi), n); got != x.want {
				t.Errorf("%d: Fits(%+v to %+v) of %+v = %v", i, x.lo, x.hi, x.v, got)
			}
		}
	}
}

func TestFitsIgnoresWhatItDoesNotAskFor(t *testing.T) {
	x := api.PNode{Label: "b", Key: "k", Lo: whole(1), Hi: whole(3)}
	for _, labels := range [][]string{{"b"}, {"a", "b"}, {"b", "c"}, {"a", "b", "c"}} {
		for _, more := range rising()[1:] {
			wantFits(t, x, api.Node{Labels: labels, Props: []api.Prop{prop("k", whole(2)), prop("l", more)}}, true)
			wantFits(t, x, api.Node{Labels: labels, Props: []api.Prop{prop("j", more), prop("k", whole(2))}}, true)
			wantFits(t, x, api.Node{Labels: labels, Props: []api.Prop{prop("j", more), prop("k", whole(4)), prop("l", more)}}, false)
		}
	}
}

func TestFitsTakesNoElementBeyondTheLength(t *testing.T) {
	n := api.Node{Labels: spaced([]string{"a"}, "b", "c"), Props: spaced([]api.Prop{prop("a", whole(1))}, prop("b", whole(2)))}
	wantFits(t, api.PNode{Label: "a"}, n, true)
	wantFits(t, api.PNode{Label: "b"}, n, false)
	wantFits(t, ranged("a", whole(1), whole(1)), n, true)
	wantFits(t, ranged("b", whole(2), whole(2)), n, false)
}

func TestFitsOfDrawnNodes(t *testing.T) {
	r := rand.New(rand.NewPCG(12, 3))
	good := 0
	const all = 50_000
	for range all {
		s := drawn(r, 40)
		x, n := s.pnode(), s.node()
		if !record.IsNode(n) || !shape.Is(api.Pattern{Nodes: []api.PNode{x}}) {
			t.Fatalf("%+v or %+v is not valid", x, n)
		}
		want := plainFits(x, n)
		wantFits(t, x, n, want)
		if want {
			good++
		}
	}
	if good < all/10 || good > all*9/10 {
		t.Errorf("%d of %d fit", good, all)
	}
}

// W1: for arguments that are not valid the result is not specified, but there is one.

func TestFitsOfArgumentsThatAreNotValid(t *testing.T) {
	vals := slices.Concat(mixedVals(), badVals()[:9])
	for _, v := range vals {
		n := api.Node{Labels: []string{"b", "a", "a", "", "A"}, Props: []api.Prop{prop("k", v), prop("k", whole(1)), prop("", v), prop("K", v)}}
		for _, lo := range vals {
			for _, key := range []string{"", "k", "K", strings.Repeat("k", 1000)} {
				shape.Fits(api.PNode{Label: "A", Key: key, Lo: lo, Hi: v}, n)
				shape.Fits(api.PNode{Key: key, Lo: v, Hi: lo}, n)
			}
		}
	}
	long := strings.Repeat("\xff", 1<<20)
	n := api.Node{Labels: make([]string, 1<<16), Props: make([]api.Prop, 1<<16)}
	shape.Fits(api.PNode{Label: long, Key: long, Lo: text(long), Hi: text(long)}, n)
	shape.Fits(ranged("k", text(long), text(long)), api.Node{Props: []api.Prop{prop("k", text(long+"a"))}})
	shape.Fits(ranged(long, text(long), text(long)), api.Node{Props: []api.Prop{prop(long, text(long))}})
}

func FuzzFits(f *testing.F) {
	f.Add([]byte(nil))
	r := rand.New(rand.NewPCG(12, 4))
	for range 20 {
		f.Add(drawn(r, 40).b)
	}
	f.Fuzz(func(t *testing.T, b []byte) {
		s := &source{b}
		x, n := s.pnode(), s.node()
		wantFits(t, x, n, plainFits(x, n))
	})
}
