package tree_test

import (
	"fmt"
	"math"
	"math/bits"
	"math/rand/v2"
	"runtime"
	"slices"
	"strings"
	"testing"

	"ligature/api"
	"ligature/tree"
)

var (
	nan     = math.Float64frombits(0x7ff8000000000000)
	negZero = math.Copysign(0, -1)
	posInf  = math.Inf(1)
	negInf  = math.Inf(-1)
)

func truth(b bool) api.Val     { return api.Val{Kind: api.Bool, B: b} }
func whole(n int) api.Val      { return api.Val{Kind: api.Int, N: n} }
func number(f float64) api.Val { return api.Val{Kind: api.Real, F: f} }
func text(s string) api.Val    { return api.Val{Kind: api.Text, T: s} }

// edgeIDs are the integers at which IDs could be mistaken for others, rising.
var edgeIDs = []int{
	math.MinInt, math.MinInt + 1, math.MinInt32, -2, -1, 0, 1, 2, math.MaxInt32, math.MaxUint32,
	math.MaxUint32 + 1, math.MaxInt - 1, math.MaxInt,
}

// wholes returns the integers from a to b as values.
func wholes(a, b int) []api.Val {
	var l []api.Val
	for n := a; n <= b; n++ {
		l = append(l, whole(n))
	}
	return l
}

// bools, ints, reals and texts are the values of one kind, in strictly rising order.
func bools() []api.Val { return []api.Val{truth(false), truth(true)} }

func ints() []api.Val {
	return []api.Val{whole(math.MinInt), whole(-1 << 53), whole(-10), whole(-9), whole(-1), whole(0), whole(1), whole(9), whole(10), whole(1 << 53), whole(1<<53 + 1), whole(math.MaxInt)}
}

func reals() []api.Val {
	var l []api.Val
	for _, f := range []float64{negInf, -math.MaxFloat64, -1, -math.SmallestNonzeroFloat64, negZero, 0, math.SmallestNonzeroFloat64, 1, 1.5, math.MaxFloat64, posInf, nan} {
		l = append(l, number(f))
	}
	return l
}

func texts() []api.Val {
	var l []api.Val
	for _, s := range []string{"", " ", "-1", "1", "10", "2", "A", "a", "a ", "aB", "aa", "aaaaaaaaaaaa", "ab", "abc", "b", "~", "~~"} {
		l = append(l, text(s))
	}
	return l
}

// rising has valid values of every kind in strictly rising order.
func rising() []api.Val {
	return slices.Concat([]api.Val{{}}, bools(), ints(), reals(), texts())
}

// mixed has a few values of every kind in strictly rising order.
func mixed() []api.Val {
	return []api.Val{{}, truth(false), truth(true), whole(-1), whole(0), number(negZero), number(0), number(nan), text(""), text("a"), text("ab")}
}

// same tells whether two entries are the same field by field: == does not tell -0 from 0, nor NaN as itself.
func same(a, b api.Entry) bool {
	if math.Float64bits(a.V.F) != math.Float64bits(b.V.F) {
		return false
	}
	a.V.F, b.V.F = 0, 0
	return a == b
}

// place is an entry by the place of its value among the values of a world.
type place struct{ at, id int }

func (x place) less(y place) bool { return x.at < y.at || x.at == y.at && x.id < y.id }

// world is a Tree beside the same set as a slice in order.
type world struct {
	t    *testing.T
	c    *tree.Tree
	vals []api.Val // strictly rising, so that the order of values is that of their places
	want []place
	past []string // the steps so far, for messages
}

func newWorld(t *testing.T, vals []api.Val) *world {
	return &world{t: t, c: tree.New(), vals: vals}
}

func (w *world) fail(format string, a ...any) {
	w.t.Helper()
	past := w.past[max(0, len(w.past)-40):]
	w.t.Fatalf("%s\nafter %s", fmt.Sprintf(format, a...), strings.Join(past, ", "))
}

func (w *world) entry(x place) api.Entry { return api.Entry{V: w.vals[x.at], ID: x.id} }

func (w *world) find(x place) (int, bool) {
	return slices.BinarySearchFunc(w.want, x, func(a, b place) int {
		switch {
		case a.less(b):
			return -1
		case b.less(a):
			return 1
		}
		return 0
	})
}

func (w *world) add(at, id int) bool {
	w.t.Helper()
	x := place{at, id}
	w.past = append(w.past, fmt.Sprintf("Add(%v)", w.entry(x)))
	i, found := w.find(x)
	if !found {
		w.want = slices.Insert(w.want, i, x)
	}
	if got := w.c.Add(w.entry(x)); got == found {
		w.fail("got %t", got)
	}
	return !found
}

func (w *world) del(at, id int) bool {
	w.t.Helper()
	x := place{at, id}
	w.past = append(w.past, fmt.Sprintf("Del(%v)", w.entry(x)))
	i, found := w.find(x)
	if found {
		w.want = slices.Delete(w.want, i, i+1)
	}
	if got := w.c.Del(w.entry(x)); got != found {
		w.fail("got %t", got)
	}
	return found
}

// wantEntries asks one result for exactly these entries.
func (w *world) wantEntries(got []api.Entry, want []place, name string, a ...any) {
	w.t.Helper()
	if !slices.EqualFunc(got, want, func(e api.Entry, x place) bool { return same(e, w.entry(x)) }) {
		var l []api.Entry
		for _, x := range want {
			l = append(l, w.entry(x))
		}
		w.fail("%s: got %v, want %v", fmt.Sprintf(name, a...), got, l)
	}
}

// wantRange asks for the entries from the value at one place to the value at another.
func (w *world) wantRange(lo, hi int) {
	w.t.Helper()
	var l []place
	for _, x := range w.want {
		if lo <= x.at && x.at <= hi {
			l = append(l, x)
		}
	}
	w.wantEntries(w.c.Range(w.vals[lo], w.vals[hi]), l, "Range(%v, %v)", w.vals[lo], w.vals[hi])
}

// wantRanges asks between all pairs of values.
func (w *world) wantRanges() {
	w.t.Helper()
	for lo := range w.vals {
		for hi := range w.vals {
			w.wantRange(lo, hi)
		}
	}
}

// wantDepth asks for Depth and its bounds.
func (w *world) wantDepth() {
	w.t.Helper()
	got, digits := w.c.Depth(), bits.Len(uint(len(w.want)))
	if longest := tree.Longest(w.c); got != longest {
		w.fail("Depth: got %d, the longest path has %d", got, longest)
	}
	if !tree.Even(w.c) {
		w.fail("the tree is not balanced")
	}
	// No tree with paths of d nodes has more than 2^d - 1 entries.
	if got < digits || got > 2*digits {
		w.fail("Depth: got %d, with %d entries", got, len(w.want))
	}
}

// wantSet asks for all but Range.
func (w *world) wantSet() {
	w.t.Helper()
	if got := w.c.Len(); got != len(w.want) {
		w.fail("Len: got %d, want %d", got, len(w.want))
	}
	w.wantEntries(w.c.All(), w.want, "All")
	w.wantDepth()
}

// wantAll asks for everything.
func (w *world) wantAll() {
	w.t.Helper()
	w.wantSet()
	w.wantRanges()
}

// adds adds what is not there, and looks at all after each.
func (w *world) adds(l ...place) {
	w.t.Helper()
	for _, x := range l {
		if !w.add(x.at, x.id) {
			w.fail("it is already there")
		}
		w.wantAll()
	}
}

// dels deletes what is there, and looks at all after each.
func (w *world) dels(l ...place) {
	w.t.Helper()
	for _, x := range l {
		if !w.del(x.at, x.id) {
			w.fail("it is not there")
		}
		w.wantAll()
	}
}

// wants asks for exactly these entries, as a test itself writes them out, and for all the rest.
func (w *world) wants(l ...place) {
	w.t.Helper()
	w.wantEntries(w.c.All(), l, "All")
	w.wantAll()
}

// places returns an entry with ID id for each of n values.
func places(n, id int) []place {
	var l []place
	for at := range n {
		l = append(l, place{at, id})
	}
	return l
}

// orders calls f with every order of l.
func orders(l []place, f func(l []place)) {
	var from func(i int)
	from = func(i int) {
		if i == len(l) {
			f(slices.Clone(l))
			return
		}
		for k := i; k < len(l); k++ {
			l[i], l[k] = l[k], l[i]
			from(i + 1)
			l[i], l[k] = l[k], l[i]
		}
	}
	from(0)
}

// shuffled returns the numbers below n in an order of their own for each seed.
func shuffled(seed uint64, n int) []int {
	return rand.New(rand.NewPCG(seed, 9)).Perm(n)
}

// P9.1

func TestExample(t *testing.T) {
	c := tree.New()
	for _, x := range []api.Entry{{V: whole(2), ID: 1}, {V: whole(1), ID: 9}, {V: whole(2), ID: 0}} {
		if !c.Add(x) {
			t.Errorf("Add(%v): got false", x)
		}
	}
	want := []api.Entry{{V: whole(1), ID: 9}, {V: whole(2), ID: 0}, {V: whole(2), ID: 1}}
	if got := c.All(); !slices.Equal(got, want) {
		t.Errorf("got %v", got)
	}
	if got := c.Len(); got != 3 {
		t.Errorf("Len: got %d", got)
	}
	if got := c.Range(whole(2), whole(2)); !slices.Equal(got, want[1:]) {
		t.Errorf("Range: got %v", got)
	}
}

func TestNewIsEmpty(t *testing.T) {
	if tree.New() == nil || tree.New() == tree.New() {
		t.Fatal("New returns no new Tree")
	}
	w := newWorld(t, rising())
	w.wants()
	if w.c.Len() != 0 || w.c.Depth() != 0 {
		t.Errorf("Len and Depth: got %d and %d", w.c.Len(), w.c.Depth())
	}
	for at := range w.vals {
		for _, id := range edgeIDs {
			if w.del(at, id) {
				t.Errorf("Del(%v, %d): got true", w.vals[at], id)
			}
		}
	}
	w.wants()
}

func TestOrdinaryUse(t *testing.T) {
	w := newWorld(t, wholes(0, 5))
	w.adds(place{3, 1}, place{1, 4}, place{3, 0}, place{5, 2}, place{0, 0})
	w.wants(place{0, 0}, place{1, 4}, place{3, 0}, place{3, 1}, place{5, 2})
	w.dels(place{3, 0})
	w.wants(place{0, 0}, place{1, 4}, place{3, 1}, place{5, 2})
	w.adds(place{2, 9}, place{2, -9})
	w.dels(place{0, 0}, place{5, 2})
	w.wants(place{1, 4}, place{2, -9}, place{2, 9}, place{3, 1})
	if got := w.c.Len(); got != 4 {
		t.Errorf("Len: got %d", got)
	}
	w.adds(place{4, 7})
	w.dels(place{2, 9})
	w.wants(place{1, 4}, place{2, -9}, place{3, 1}, place{4, 7})
}

func TestAddOfOneThatIsThere(t *testing.T) {
	for n := 1; n <= 12; n++ {
		w := newWorld(t, wholes(0, 12))
		w.adds(places(n, 3)...)
		for range 2 {
			for at := range n {
				if w.c.Add(w.entry(place{at, 3})) {
					t.Errorf("Add: got true, with %d entries", n)
				}
				w.wants(places(n, 3)...)
			}
		}
		// One that was added twice is there once.
		w.dels(place{0, 3})
		w.wants(places(n, 3)[1:]...)
	}
}

func TestDelOfOneThatIsNotThere(t *testing.T) {
	w := newWorld(t, wholes(0, 9))
	there := []place{{2, 1}, {4, 1}, {4, 3}, {6, 1}, {8, 5}}
	w.adds(there...)
	for range 2 {
		for at := range w.vals {
			for id := range 8 {
				if slices.Contains(there, place{at, id}) {
					continue
				}
				// Many of these are there by their value alone, or by their ID alone.
				if w.c.Del(w.entry(place{at, id})) {
					t.Errorf("Del(%d, %d): got true", at, id)
				}
				w.wants(there...)
			}
		}
	}
}

func TestASecondDel(t *testing.T) {
	for n := 1; n <= 8; n++ {
		for at := range n {
			w := newWorld(t, wholes(0, n))
			w.adds(places(n, 0)...)
			w.dels(place{at, 0})
			left := slices.Delete(places(n, 0), at, at+1)
			for range 2 {
				if w.c.Del(w.entry(place{at, 0})) {
					t.Errorf("Del again: got true, with %d entries", n)
				}
				w.wants(left...)
			}
		}
	}
}

func TestOneValueWithManyIDs(t *testing.T) {
	for at := range rising() {
		w := newWorld(t, rising())
		for _, i := range shuffled(uint64(at), len(edgeIDs)) {
			if !w.add(at, edgeIDs[i]) || w.add(at, edgeIDs[i]) {
				t.Errorf("Add of ID %d", edgeIDs[i])
			}
			w.wantSet()
			w.wantRange(at, at)
		}
		want := make([]place, 0, len(edgeIDs))
		for _, id := range edgeIDs {
			want = append(want, place{at, id})
		}
		w.wants(want...)
		for _, i := range shuffled(uint64(at)+1000, len(edgeIDs)) {
			if !w.del(at, edgeIDs[i]) || w.del(at, edgeIDs[i]) {
				t.Errorf("Del of ID %d", edgeIDs[i])
			}
			w.wantSet()
			w.wantRange(at, at)
		}
		w.wants()
	}
}

func TestOneIDWithManyValues(t *testing.T) {
	for i, id := range edgeIDs {
		w := newWorld(t, rising())
		for _, at := range shuffled(uint64(i), len(w.vals)) {
			if !w.add(at, id) {
				t.Errorf("Add of %v: got false", w.vals[at])
			}
			w.wantSet()
		}
		w.wants(places(len(w.vals), id)...)
		for _, at := range shuffled(uint64(i)+1000, len(w.vals)) {
			if !w.del(at, id) {
				t.Errorf("Del of %v: got false", w.vals[at])
			}
			w.wantSet()
		}
	}
}

func TestValuesOfEveryKindSideBySide(t *testing.T) {
	w := newWorld(t, rising())
	for _, at := range shuffled(1, len(w.vals)) {
		w.adds(place{at, 2})
	}
	w.wants(places(len(w.vals), 2)...)
	for _, at := range shuffled(2, len(w.vals)) {
		w.add(at, 1)
		w.add(at, 3)
	}
	w.wantAll()
	for _, at := range shuffled(3, len(w.vals)) {
		w.dels(place{at, 2})
	}
	if got := w.c.Len(); got != 2*len(w.vals) {
		t.Errorf("Len: got %d", got)
	}
}

func TestTheOrderIsByValueAndThenByID(t *testing.T) {
	w := newWorld(t, mixed())
	for at := range w.vals {
		// A greater value has lesser IDs.
		w.adds(place{at, -2 * at}, place{at, -2*at - 1})
	}
	var want []place
	for at := range w.vals {
		want = append(want, place{at, -2*at - 1}, place{at, -2 * at})
	}
	w.wants(want...)
}

func TestReals(t *testing.T) {
	// They are written out, rising, so that this test does not depend on the others' values.
	l := []float64{negInf, -1, negZero, 0, 1, posInf, nan}
	var vals []api.Val
	for _, f := range l {
		vals = append(vals, number(f))
	}
	orders(places(len(l), 0), func(order []place) {
		w := newWorld(t, vals)
		for _, x := range order {
			w.add(x.at, x.id)
		}
		w.wantSet()
		for _, x := range order {
			if w.add(x.at, x.id) {
				t.Errorf("Add of %v again: got true", w.vals[x.at])
			}
		}
		for _, x := range order[:4] {
			w.del(x.at, x.id)
		}
		w.wantSet()
	})
	w := newWorld(t, vals)
	w.adds(places(len(l), 0)...)
	w.wants(places(len(l), 0)...)
	w.dels(place{6, 0})
	w.wants(places(6, 0)...)
	w.dels(place{2, 0})
	w.wants(place{0, 0}, place{1, 0}, place{3, 0}, place{4, 0}, place{5, 0})
	w.adds(place{6, 1}, place{6, 0})
	w.dels(place{3, 0})
	w.adds(place{2, 0})
	w.wants(place{0, 0}, place{1, 0}, place{2, 0}, place{4, 0}, place{5, 0}, place{6, 0}, place{6, 1})
}

func TestZerosAreKeptApart(t *testing.T) {
	c := tree.New()
	if !c.Add(api.Entry{V: number(0), ID: 1}) || c.Del(api.Entry{V: number(negZero), ID: 1}) {
		t.Error("-0 is taken for 0")
	}
	if !c.Add(api.Entry{V: number(negZero), ID: 1}) || c.Len() != 2 {
		t.Error("-0 is not added beside 0")
	}
	all := c.All()
	if len(all) != 2 || !math.Signbit(all[0].V.F) || math.Signbit(all[1].V.F) {
		t.Errorf("got %v", all)
	}
	if got := c.Range(number(negZero), number(negZero)); len(got) != 1 || !math.Signbit(got[0].V.F) {
		t.Errorf("from -0 to -0: got %v", got)
	}
	if got := c.Range(number(0), number(0)); len(got) != 1 || math.Signbit(got[0].V.F) {
		t.Errorf("from 0 to 0: got %v", got)
	}
	if got := c.Range(number(0), number(negZero)); len(got) != 0 {
		t.Errorf("from 0 to -0: got %v", got)
	}
}

func TestNaNIsFound(t *testing.T) {
	c := tree.New()
	x := api.Entry{V: number(nan), ID: 1}
	if !c.Add(x) || c.Add(x) || c.Len() != 1 {
		t.Error("NaN is added twice")
	}
	c.Add(api.Entry{V: number(posInf), ID: 1})
	if got := c.Range(number(nan), number(nan)); len(got) != 1 || !same(got[0], x) {
		t.Errorf("from NaN to NaN: got %v", got)
	}
	if got := c.Range(number(negInf), number(posInf)); len(got) != 1 || got[0].V.F != posInf {
		t.Errorf("from -Inf to +Inf: got %v", got)
	}
	if !c.Del(x) || c.Del(x) || c.Len() != 1 {
		t.Error("NaN is not deleted once")
	}
}

func TestTextsThatBeginWithOthers(t *testing.T) {
	w := newWorld(t, []api.Val{text(""), text("a"), text("a "), text("aa"), text("aaa"), text("ab"), text("b")})
	orders(places(len(w.vals), 0), func(order []place) {
		x := newWorld(t, w.vals)
		for _, y := range order {
			x.add(y.at, y.id)
		}
		x.wantSet()
		x.wantRange(1, 5)
	})
	w.adds(places(7, 0)...)
	w.wants(places(7, 0)...)
	if w.c.Del(api.Entry{V: text("aaaa")}) || w.c.Del(api.Entry{V: text(" ")}) {
		t.Error("a text is taken for one that begins with it")
	}
	w.dels(place{1, 0})
	w.wants(place{0, 0}, place{2, 0}, place{3, 0}, place{4, 0}, place{5, 0}, place{6, 0})
	w.dels(place{3, 0}, place{0, 0})
	w.wants(place{2, 0}, place{4, 0}, place{5, 0}, place{6, 0})
}

func TestRangeWithBothEndsTheSame(t *testing.T) {
	w := newWorld(t, rising())
	for at := range w.vals {
		if at%3 > 0 {
			w.add(at, 7)
		}
		if at%3 > 1 {
			w.add(at, -7)
		}
	}
	for at, v := range w.vals {
		want := [][]place{nil, {{at, 7}}, {{at, -7}, {at, 7}}}[at%3]
		w.wantEntries(w.c.Range(v, v), want, "Range(%v, %v)", v, v)
	}
}

func TestRangeWithEndsThatAreNotThere(t *testing.T) {
	// Just the odd values are there.
	w := newWorld(t, wholes(0, 20))
	var want []place
	for at := 1; at < 20; at += 2 {
		w.adds(place{at, at})
		want = append(want, place{at, at})
	}
	for i := range want {
		for k := i; k <= len(want); k++ {
			w.wantEntries(w.c.Range(whole(2*i), whole(2*k)), want[i:k], "Range(%d, %d)", 2*i, 2*k)
		}
	}
	for _, v := range []api.Val{whole(-1), whole(21), whole(math.MinInt), whole(math.MaxInt), {}, truth(true), number(negInf), text("")} {
		if got := w.c.Range(v, v); len(got) != 0 {
			t.Errorf("Range(%v, %v): got %v", v, v, got)
		}
	}
	w.wantEntries(w.c.Range(whole(-5), whole(9)), want[:5], "from below to the middle")
	w.wantEntries(w.c.Range(whole(9), whole(99)), want[4:], "from the middle to above")
	w.wantEntries(w.c.Range(whole(math.MinInt), whole(math.MaxInt)), want, "from below to above")
	if got := w.c.Range(whole(20), whole(99)); len(got) != 0 {
		t.Errorf("above: got %v", got)
	}
	if got := w.c.Range(whole(-5), whole(0)); len(got) != 0 {
		t.Errorf("below: got %v", got)
	}
}

func TestRangeWithLoGreaterThanHi(t *testing.T) {
	w := newWorld(t, rising())
	for n := range 3 {
		for at := range w.vals {
			w.add(at, n)
		}
		for lo := range w.vals {
			for hi := range lo {
				if got := w.c.Range(w.vals[lo], w.vals[hi]); len(got) != 0 {
					t.Errorf("Range(%v, %v): got %v", w.vals[lo], w.vals[hi], got)
				}
			}
		}
	}
}

func TestRangeOverAllValues(t *testing.T) {
	w := newWorld(t, rising())
	for _, at := range shuffled(4, len(w.vals)) {
		w.adds(place{at, 1})
	}
	l := places(len(w.vals), 1)
	w.wantEntries(w.c.Range(api.Val{}, text("~~~~~~~~~~~~")), l, "all")
	w.wantEntries(w.c.Range(truth(false), text("~~~~~~~~~~~~")), l[1:], "all but Null")
	w.wantEntries(w.c.Range(api.Val{}, api.Val{}), l[:1], "Null")
}

func TestRangeOverOneKind(t *testing.T) {
	w := newWorld(t, rising())
	for _, at := range shuffled(5, len(w.vals)) {
		w.add(at, 1)
		w.add(at, 0)
	}
	from := 1
	for _, kind := range [][]api.Val{bools(), ints(), reals(), texts()} {
		var want []place
		for at := from; at < from+len(kind); at++ {
			want = append(want, place{at, 0}, place{at, 1})
		}
		lo, hi := kind[0], kind[len(kind)-1]
		w.wantEntries(w.c.Range(lo, hi), want, "Range(%v, %v)", lo, hi)
		from += len(kind)
	}
	if from != len(w.vals) {
		t.Errorf("%d values are of a kind", from)
	}
}

func TestTheFirstLastMiddleAndOnlyOneDeleted(t *testing.T) {
	for n := 1; n <= 40; n++ {
		for _, at := range []int{0, n / 2, n - 1} {
			w := newWorld(t, wholes(1, n))
			for _, i := range shuffled(uint64(n), n) {
				w.add(i, 0)
			}
			w.dels(place{at, 0})
			w.wants(slices.Delete(places(n, 0), at, at+1)...)
			w.adds(place{at, 0})
			w.wants(places(n, 0)...)
		}
	}
}

func TestDelAtEveryPlace(t *testing.T) {
	for n := 1; n <= 40; n++ {
		for _, order := range [][]int{shuffled(1, n), shuffled(2, n)} {
			for at := range n {
				w := newWorld(t, wholes(1, n))
				for _, i := range order {
					w.add(i, 0)
				}
				w.del(at, 0)
				w.wantSet()
			}
		}
	}
}

func TestEveryOrderOfAddAndDel(t *testing.T) {
	for n := 1; n <= 5; n++ {
		orders(places(n, 0), func(add []place) {
			orders(places(n, 0), func(del []place) {
				w := newWorld(t, wholes(1, n))
				for _, x := range add {
					w.add(x.at, x.id)
					w.wantSet()
				}
				for _, x := range del {
					w.del(x.at, x.id)
					w.wantSet()
				}
			})
		})
	}
}

func TestEmptiedAndFilledAgain(t *testing.T) {
	w := newWorld(t, mixed())
	for i := range uint64(5) {
		for _, at := range shuffled(i, len(w.vals)) {
			w.adds(place{at, int(i)})
		}
		w.wants(places(len(w.vals), int(i))...)
		for _, at := range shuffled(i+100, len(w.vals)) {
			w.dels(place{at, int(i)})
		}
		w.wants()
		if w.c.Len() != 0 || w.c.Depth() != 0 {
			t.Errorf("Len and Depth: got %d and %d", w.c.Len(), w.c.Depth())
		}
		w.adds(place{4, 5})
		w.wants(place{4, 5})
		w.dels(place{4, 5})
		w.wants()
	}
}

func TestAskingChangesNothing(t *testing.T) {
	w := newWorld(t, wholes(0, 9))
	w.adds(places(7, 1)...)
	for range 10 {
		w.wants(places(7, 1)...)
	}
}

func TestTwoTreesDoNotKnowEachOther(t *testing.T) {
	a, b := newWorld(t, mixed()), newWorld(t, mixed())
	a.adds(place{1, 1}, place{2, 2})
	b.wants()
	b.adds(place{2, 2}, place{1, 1}, place{3, 3})
	b.dels(place{1, 1})
	a.wants(place{1, 1}, place{2, 2})
	b.wants(place{2, 2}, place{3, 3})
}

// P9.2

// sequences are orders of the numbers below n.
func sequences(n int) map[string]func(i int) int {
	order := shuffled(6, n)
	inwards := func(i int) int {
		if i%2 == 0 {
			return i / 2
		}
		return n - 1 - i/2
	}
	return map[string]func(i int) int{
		"rising":   func(i int) int { return i },
		"falling":  func(i int) int { return n - 1 - i },
		"shuffled": func(i int) int { return order[i] },
		"inwards":  inwards,
		"outwards": func(i int) int { return inwards(n - 1 - i) },
		"every second one": func(i int) int {
			if i < (n+1)/2 {
				return 2 * i
			}
			return 2*(i-(n+1)/2) + 1
		},
	}
}

func TestSequencesAreOrders(t *testing.T) {
	for _, n := range []int{1, 2, 3, 4, 5, 300, 301} {
		for name, at := range sequences(n) {
			l := make([]int, n)
			for i := range l {
				l[i] = at(i)
			}
			slices.Sort(l)
			for i := range l {
				if l[i] != i {
					t.Fatalf("%s is no order of %d", name, n)
				}
			}
		}
	}
}

func TestDepth(t *testing.T) {
	for _, n := range []int{1, 2, 3, 4, 5, 300, 301} {
		for adding, add := range sequences(n) {
			for deleting, del := range sequences(n) {
				w := newWorld(t, wholes(1, n))
				w.past = []string{adding, deleting}
				w.wantDepth()
				for i := range n {
					w.add(add(i), 0)
					w.wantDepth()
				}
				w.wantSet()
				for i := range n {
					w.del(del(i), 0)
					w.wantDepth()
				}
				w.wantSet()
			}
		}
	}
}

func TestDepthWithOneValue(t *testing.T) {
	const n = 300
	for adding, add := range sequences(n) {
		for deleting, del := range sequences(n) {
			w := newWorld(t, []api.Val{text("a")})
			w.past = []string{adding, deleting}
			for i := range n {
				w.add(0, add(i)-n/2)
				w.wantDepth()
			}
			w.wantSet()
			for i := range n {
				w.del(0, del(i)-n/2)
				w.wantDepth()
			}
		}
	}
}

func TestDepthOfFewEntries(t *testing.T) {
	c := tree.New()
	want := func(low, high int) {
		t.Helper()
		if got := c.Depth(); got < low || got > high {
			t.Errorf("got %d, with %d entries", got, c.Len())
		}
	}
	want(0, 0)
	c.Add(api.Entry{})
	want(1, 1)
	c.Add(api.Entry{})
	want(1, 1)
	c.Add(api.Entry{ID: 1})
	want(2, 2)
	c.Add(api.Entry{ID: 2})
	want(2, 3)
	c.Del(api.Entry{ID: 7})
	want(2, 3)
	c.Del(api.Entry{ID: 1})
	want(2, 2)
	c.Del(api.Entry{})
	want(1, 1)
	c.Del(api.Entry{})
	want(1, 1)
	c.Del(api.Entry{ID: 2})
	want(0, 0)
}

func TestDepthWithAddAndDelMixed(t *testing.T) {
	const n = 400
	for name, at := range sequences(n) {
		for _, gone := range []int{2, 3, 5} {
			w := newWorld(t, wholes(1, n))
			w.past = []string{name}
			// The oldest one leaves after each of some steps, so that one side is always filled and the other one emptied.
			oldest := 0
			for i := range n {
				w.add(at(i), 0)
				w.wantDepth()
				if i%gone != 0 {
					w.del(at(oldest), 0)
					oldest++
					w.wantDepth()
				}
			}
			w.wantSet()
		}
	}
}

func TestDepthWithAWindow(t *testing.T) {
	const n, most = 2000, 50
	w := newWorld(t, wholes(1, n))
	for i := range n {
		w.add(i, 0)
		w.wantDepth()
		if i >= most {
			w.del(i-most, 0)
			w.wantDepth()
		}
	}
	w.wantSet()
}

func TestManyEntries(t *testing.T) {
	// Add, Del and a short Range must not go through the whole tree each time.
	const n = 200000
	for name, at := range sequences(n) {
		c := tree.New()
		bound := func(size int) {
			if c.Len() != size || c.Depth() < bits.Len(uint(size)) || c.Depth() > 2*bits.Len(uint(size)) {
				t.Fatalf("%s: Len %d and Depth %d, want %d entries", name, c.Len(), c.Depth(), size)
			}
		}
		for i := range n {
			if !c.Add(api.Entry{V: whole(at(i)), ID: -at(i)}) {
				t.Fatalf("%s: Add(%d): got false", name, at(i))
			}
			bound(i + 1)
		}
		for i := range n {
			if l := c.Range(whole(i), whole(i+1)); l[0] != (api.Entry{V: whole(i), ID: -i}) || len(l) != min(2, n-i) {
				t.Fatalf("%s: Range(%d, %d): got %v", name, i, i+1, l)
			}
			if l := c.Range(whole(i+1), whole(i)); len(l) != 0 {
				t.Fatalf("%s: Range(%d, %d): got %v", name, i+1, i, l)
			}
		}
		for i := range n / 2 {
			if !c.Del(api.Entry{V: whole(at(i)), ID: -at(i)}) {
				t.Fatalf("%s: Del(%d): got false", name, at(i))
			}
			bound(n - i - 1)
		}
		all := c.All()
		if len(all) != n/2 || !slices.IsSortedFunc(all, func(a, b api.Entry) int { return a.V.N - b.V.N }) {
			t.Fatalf("%s: All: got %d entries", name, len(all))
		}
	}
}

// P9.3

// spoil overwrites a result, with its unused capacity, and appends to it.
func spoil(l []api.Entry) {
	l = l[:cap(l)]
	for i := range l {
		l[i] = api.Entry{V: text("spoilt"), ID: 99}
	}
	_ = append(l[:0], api.Entry{ID: 98}, api.Entry{ID: 97})
}

func TestResultsAreNew(t *testing.T) {
	for n := range 12 {
		w := newWorld(t, append(mixed(), text("spoilt")))
		w.adds(places(n, 1)...)
		for range 2 {
			spoil(w.c.All())
			w.wants(places(n, 1)...)
			for lo := range w.vals {
				for hi := range w.vals {
					spoil(w.c.Range(w.vals[lo], w.vals[hi]))
				}
				w.wants(places(n, 1)...)
			}
		}
		w.adds(place{11, 1})
		w.wants(append(places(n, 1), place{11, 1})...)
		w.dels(places(n, 1)...)
		w.wants(place{11, 1})
	}
}

func TestResultsShareNothing(t *testing.T) {
	for n := range 12 {
		w := newWorld(t, mixed())
		w.adds(places(min(n, len(w.vals)), 1)...)
		ask := []func() []api.Entry{
			func() []api.Entry { return w.c.All() },
			func() []api.Entry { return w.c.Range(api.Val{}, text("ab")) },
			func() []api.Entry { return w.c.Range(whole(-1), number(0)) },
			func() []api.Entry { return w.c.Range(api.Val{}, api.Val{}) },
		}
		for i, first := range ask {
			for k, second := range ask {
				a, b := first(), second()
				before := slices.Clone(b)
				spoil(a)
				if !slices.EqualFunc(b, before, same) {
					t.Errorf("%d entries: result %d is changed by %d: %v", n, k, i, b)
				}
			}
		}
	}
}

func TestResultsDoNotChangeLater(t *testing.T) {
	w := newWorld(t, rising())
	w.adds(places(9, 1)...)
	all, part := w.c.All(), w.c.Range(w.vals[2], w.vals[5])
	for _, f := range []func(){
		func() { w.adds(place{9, 1}, place{3, 0}) },
		func() { w.dels(place{0, 1}, place{4, 1}) },
		func() { w.adds(place{4, 1}) },
		func() { w.wantAll() },
		func() { w.dels(slices.Clone(w.want)...) },
		func() { w.adds(place{20, 2}) },
	} {
		f()
		w.wantEntries(all, places(9, 1), "an All from before")
		w.wantEntries(part, places(9, 1)[2:6], "a Range from before")
	}
}

func TestNilTree(t *testing.T) {
	var c *tree.Tree
	look := func() {
		t.Helper()
		if c.Len() != 0 || c.Depth() != 0 {
			t.Errorf("Len and Depth: got %d and %d", c.Len(), c.Depth())
		}
		if got := c.All(); len(got) != 0 {
			t.Errorf("All: got %v", got)
		}
		for _, lo := range rising() {
			for _, hi := range rising() {
				if got := c.Range(lo, hi); len(got) != 0 {
					t.Errorf("Range(%v, %v): got %v", lo, hi, got)
				}
			}
		}
	}
	look()
	for _, v := range rising() {
		for _, id := range edgeIDs {
			x := api.Entry{V: v, ID: id}
			if c.Del(x) {
				t.Errorf("Del(%v): got true", x)
			}
			if c.Add(x) || c.Add(x) {
				t.Errorf("Add(%v): got true", x)
			}
			if c.Del(x) {
				t.Errorf("Del(%v): got true", x)
			}
		}
	}
	c.Add(api.Entry{ID: 1})
	look()
	// What is added to nil is not found elsewhere.
	newWorld(t, mixed()).wantAll()
	w := newWorld(t, mixed())
	w.adds(place{0, 1}, place{3, 2})
	c.Add(w.entry(place{5, 3}))
	c.Del(w.entry(place{0, 1}))
	w.wants(place{0, 1}, place{3, 2})
	look()
}

// What holds everywhere

// strange has values that are not valid.
func strange() []api.Val {
	l := []api.Val{
		{Kind: api.Real, F: math.Float64frombits(0x7ff0000000000001)},
		{Kind: api.Real, F: math.Float64frombits(0xfff8000000000000)},
		{Kind: api.Bool, B: true, N: 3},
		{Kind: api.Int, N: 1, T: "a"},
		{Kind: api.Int, N: 1, F: nan},
		{Kind: api.Null, F: nan, T: "a"},
		text(strings.Repeat("a", 1000)), text("\x00"), text("\xff\xfe"),
	}
	for _, kind := range []int{-1, 5, 6, math.MinInt, math.MaxInt} {
		l = append(l, api.Val{Kind: kind}, api.Val{Kind: kind, B: true, N: 1, F: nan, T: "a"})
	}
	return l
}

func TestValuesThatAreNotValidEnd(t *testing.T) {
	l := append(strange(), mixed()...)
	for seed := range uint64(20) {
		c := tree.New()
		for id := range 3 {
			for _, i := range shuffled(seed, len(l)) {
				c.Add(api.Entry{V: l[i], ID: id})
			}
		}
		for _, lo := range l {
			for _, hi := range l {
				c.Range(lo, hi)
			}
		}
		c.All()
		c.Len()
		c.Depth()
		for id := range 3 {
			for _, i := range shuffled(seed+100, len(l)) {
				c.Del(api.Entry{V: l[i], ID: id})
			}
		}
	}
}

func TestZeroTreeIsEmpty(t *testing.T) {
	w := newWorld(t, mixed())
	w.c = &tree.Tree{}
	w.wantAll()
	if w.del(0, 0) {
		t.Error("Del: got true")
	}
	w.wantAll()
	w.adds(place{1, 1}, place{0, 2}, place{5, 3})
	w.dels(place{1, 1})
	w.wants(place{0, 2}, place{5, 3})
}

func TestCopiedTreeGoesOn(t *testing.T) {
	for n := range 6 {
		w := newWorld(t, wholes(0, 9))
		w.adds(places(n, 1)...)
		copied := *w.c
		w.c = &copied
		w.wants(places(n, 1)...)
		w.adds(place{9, 1}, place{6, 6})
		w.dels(places(n, 1)...)
		w.wants(place{6, 6}, place{9, 1})
	}
}

// heap returns how many bytes are in use.
func heap() uint64 {
	runtime.GC()
	var m runtime.MemStats
	runtime.ReadMemStats(&m)
	return m.HeapAlloc
}

func TestWhatIsDeletedIsNotKept(t *testing.T) {
	c := tree.New()
	c.Add(api.Entry{ID: -1})
	before := heap()
	for i := range 300000 {
		c.Add(api.Entry{V: whole(i)})
		c.Add(api.Entry{V: whole(i), ID: 1})
		c.Del(api.Entry{V: whole(i)})
		c.Del(api.Entry{V: whole(i), ID: 1})
		c.Del(api.Entry{V: whole(-i), ID: 1})
		c.Range(whole(i), whole(i))
	}
	if after := heap(); after > before+1<<20 {
		t.Errorf("%d bytes are kept", after-before)
	}
	if got := c.All(); len(got) != 1 || c.Len() != 1 || c.Depth() != 1 {
		t.Errorf("got %v", got)
	}
}

// All sequences

// step is an Add or a Del.
type step struct {
	del bool
	place
}

func (w *world) do(x step) {
	w.t.Helper()
	if x.del {
		w.del(x.at, x.id)
	} else {
		w.add(x.at, x.id)
	}
}

// steps returns every step with n values and these IDs.
func steps(n int, ids []int) []step {
	var l []step
	for at := range n {
		for _, id := range ids {
			l = append(l, step{false, place{at, id}}, step{true, place{at, id}})
		}
	}
	return l
}

// every looks at all after each sequence of at most most steps.
func every(t *testing.T, vals []api.Val, ids []int, most int) {
	t.Helper()
	all := steps(len(vals), ids)
	var from func(past []step)
	from = func(past []step) {
		w := newWorld(t, vals)
		for _, x := range past {
			w.do(x)
		}
		w.wantAll()
		if len(past) == most {
			return
		}
		for _, x := range all {
			from(append(past[:len(past):len(past)], x))
		}
	}
	from(nil)
}

func TestEveryShortSequence(t *testing.T) {
	every(t, wholes(1, 3), []int{0}, 6)
	every(t, wholes(1, 2), []int{1, 2}, 5)
	every(t, []api.Val{number(negZero), number(0), number(nan)}, []int{math.MinInt, math.MaxInt}, 4)
	every(t, []api.Val{{}, truth(false), whole(0), number(0), text("")}, []int{0}, 4)
}

// follow takes each byte of a script as a step, and looks at it after each, at all every now and then.
func follow(t *testing.T, vals []api.Val, ids []int, script []byte) {
	t.Helper()
	w := newWorld(t, vals)
	all := steps(len(vals), ids)
	for i, b := range script {
		// A byte alone could not name every step if there are more than 256.
		x := all[(int(b)+89*i)%len(all)]
		w.do(x)
		w.wantSet()
		w.wantRange(x.at, x.at)
		w.wantRange(x.at, int(b)%len(vals))
		w.wantRange(int(b)%len(vals), x.at)
		w.wantRange(0, len(vals)-1)
		if i%50 == 49 {
			w.wantRanges()
		}
	}
	w.wantAll()
}

func TestLongScripts(t *testing.T) {
	for seed := range uint64(250) {
		r := rand.New(rand.NewPCG(seed, 9))
		script := make([]byte, 200)
		for i := range script {
			script[i] = byte(r.UintN(256))
		}
		vals := [][]api.Val{rising(), mixed(), wholes(-2, 2), reals(), texts()}[seed%5]
		follow(t, vals, edgeIDs[:1+r.UintN(uint(len(edgeIDs)))], script)
	}
}

func FuzzTree(f *testing.F) {
	f.Add([]byte{0, 2, 4, 1, 3, 5})
	f.Add([]byte{0, 2, 4, 3, 2, 1, 0, 12, 14, 13, 15})
	f.Fuzz(func(t *testing.T, script []byte) {
		follow(t, mixed(), []int{0, 1, -1, math.MaxInt, math.MinInt}, script[:min(len(script), 300)])
	})
}
