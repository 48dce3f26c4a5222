package chain_test

import (
	"fmt"
	"math"
	"math/rand/v2"
	"runtime"
	"slices"
	"strings"
	"testing"

	"ligature/chain"
)

// edges are the integers at which lists or ids could be mistaken for others.
var edges = []int{
	0, 1, -1, 2, -2, math.MaxInt, math.MaxInt - 1, math.MinInt, math.MinInt + 1,
	math.MaxInt32, math.MinInt32, math.MaxInt32 + 1, math.MaxUint32, math.MaxUint32 + 1,
}

// world is Lists beside the same lists as slices, front first.
type world struct {
	t     *testing.T
	c     *chain.Lists
	want  map[int][]int
	lists []int // all that wantAll asks for
	ids   []int
	past  []string // the steps so far, for messages
}

func newWorld(t *testing.T, lists, ids []int) *world {
	return &world{t: t, c: chain.New(), want: map[int][]int{}, lists: lists, ids: ids}
}

func (w *world) fail(format string, a ...any) {
	w.t.Helper()
	past := w.past[max(0, len(w.past)-40):]
	w.t.Fatalf("%s\nafter %s", fmt.Sprintf(format, a...), strings.Join(past, ", "))
}

func (w *world) add(list, id int) bool {
	w.t.Helper()
	w.past = append(w.past, fmt.Sprintf("Add(%d, %d)", list, id))
	l := w.want[list]
	want := !slices.Contains(l, id)
	if want {
		w.want[list] = append([]int{id}, l...)
	}
	if got := w.c.Add(list, id); got != want {
		w.fail("got %t, with %v", got, l)
	}
	return want
}

func (w *world) cut(list, id int) bool {
	w.t.Helper()
	w.past = append(w.past, fmt.Sprintf("Cut(%d, %d)", list, id))
	l := w.want[list]
	i := slices.Index(l, id)
	if i >= 0 {
		w.want[list] = slices.Concat(l[:i], l[i+1:])
	}
	if got := w.c.Cut(list, id); got != (i >= 0) {
		w.fail("got %t, with %v", got, l)
	}
	return i >= 0
}

// wantList asks for one list, both ways.
func (w *world) wantList(list int, want ...int) {
	w.t.Helper()
	if got := w.c.Walk(list); !slices.Equal(got, want) {
		w.fail("Walk(%d): got %v, want %v", list, got, want)
	}
	back := slices.Clone(want)
	slices.Reverse(back)
	if got := w.c.Back(list); !slices.Equal(got, back) {
		w.fail("Back(%d): got %v, want %v", list, got, back)
	}
}

// wantAll asks for all lists, each id of them, and their Len.
func (w *world) wantAll() {
	w.t.Helper()
	n := 0
	for _, l := range w.want {
		n += len(l)
	}
	if got := w.c.Len(); got != n {
		w.fail("Len: got %d, want %d", got, n)
	}
	for _, list := range w.lists {
		w.wantList(list, w.want[list]...)
		for _, id := range w.ids {
			if got := w.c.Has(list, id); got != slices.Contains(w.want[list], id) {
				w.fail("Has(%d, %d): got %t, with %v", list, id, got, w.want[list])
			}
		}
	}
}

// adds adds what is not there, and looks at all after each.
func (w *world) adds(list int, ids ...int) {
	w.t.Helper()
	for _, id := range ids {
		if !w.add(list, id) {
			w.fail("%d is already in %d", id, list)
		}
		w.wantAll()
	}
}

// cuts cuts what is there, and looks at all after each.
func (w *world) cuts(list int, ids ...int) {
	w.t.Helper()
	for _, id := range ids {
		if !w.cut(list, id) {
			w.fail("%d is not in %d", id, list)
		}
		w.wantAll()
	}
}

// wants asks one list for exactly these ids, as a test itself writes them out, and for all the rest.
func (w *world) wants(list int, ids ...int) {
	w.t.Helper()
	w.wantList(list, ids...)
	w.wantAll()
}

// upTo returns 1 to n.
func upTo(n int) []int {
	var l []int
	for i := range n {
		l = append(l, i+1)
	}
	return l
}

// downFrom returns n to 1, which is 1 to n after they were added.
func downFrom(n int) []int {
	l := upTo(n)
	slices.Reverse(l)
	return l
}

// P8.1

func TestExample(t *testing.T) {
	c := chain.New()
	if !c.Add(1, 5) || !c.Add(1, 7) {
		t.Error("Add: got false")
	}
	if got := c.Walk(1); !slices.Equal(got, []int{7, 5}) {
		t.Errorf("Walk: got %v", got)
	}
	if got := c.Back(1); !slices.Equal(got, []int{5, 7}) {
		t.Errorf("Back: got %v", got)
	}
}

func TestNewHasNoIds(t *testing.T) {
	if chain.New() == nil || chain.New() == chain.New() {
		t.Fatal("New returns no new Lists")
	}
	w := newWorld(t, edges, edges)
	w.wantAll()
	for _, list := range edges {
		w.wants(list)
		for _, id := range edges {
			if w.cut(list, id) {
				t.Errorf("Cut(%d, %d): got true", list, id)
			}
		}
	}
	w.wantAll()
}

func TestOrdinaryUse(t *testing.T) {
	w := newWorld(t, []int{1, 2, 3, 4}, []int{5, 6, 7, 8, 9})
	w.adds(1, 5, 7, 9)
	w.adds(2, 7)
	w.adds(1, 6)
	w.adds(3, 9, 8, 5)
	w.wants(1, 6, 9, 7, 5)
	w.wants(2, 7)
	w.wants(3, 5, 8, 9)
	w.cuts(1, 7)
	w.wants(1, 6, 9, 5)
	w.wants(2, 7)
	w.cuts(3, 9)
	w.adds(2, 9)
	w.adds(1, 8)
	w.wants(1, 8, 6, 9, 5)
	w.wants(2, 9, 7)
	w.wants(3, 5, 8)
	w.wants(4)
	if got := w.c.Len(); got != 8 {
		t.Errorf("Len: got %d", got)
	}
}

func TestAddInsertsAtTheFront(t *testing.T) {
	w := newWorld(t, []int{1}, upTo(20))
	for i := range 20 {
		w.adds(1, i+1)
		w.wants(1, downFrom(i+1)...)
	}
}

func TestAddOfOneThatIsThere(t *testing.T) {
	for n := 1; n <= 5; n++ {
		w := newWorld(t, []int{1, 2}, upTo(n))
		w.adds(1, upTo(n)...)
		for range 2 {
			for id := 1; id <= n; id++ {
				if w.c.Add(1, id) {
					t.Errorf("Add(1, %d): got true, with %d ids", id, n)
				}
				w.wants(1, downFrom(n)...)
			}
		}
		// One that was added twice is there once.
		w.cuts(1, n)
		w.wants(1, downFrom(n-1)...)
	}
}

func TestCutOfOneThatIsNotThere(t *testing.T) {
	w := newWorld(t, []int{1, 2, 3, 4}, []int{1, 2, 3, 4, 9})
	w.adds(1, 1, 2, 3)
	w.adds(2, 4)
	for range 2 {
		for _, x := range [][2]int{{1, 4}, {1, 9}, {1, 0}, {1, -1}, {1, math.MaxInt}, {1, math.MinInt}, {2, 1}, {2, 2}, {3, 1}, {4, 2}, {-1, 1}, {0, 1}} {
			if w.c.Cut(x[0], x[1]) {
				t.Errorf("Cut(%d, %d): got true", x[0], x[1])
			}
			w.wants(1, 3, 2, 1)
			w.wants(2, 4)
		}
	}
}

func TestASecondCut(t *testing.T) {
	for _, id := range []int{1, 2, 3} {
		w := newWorld(t, []int{1}, upTo(3))
		w.adds(1, 1, 2, 3)
		w.cuts(1, id)
		left := slices.Clone(w.want[1])
		for range 2 {
			if w.c.Cut(1, id) {
				t.Errorf("Cut(1, %d) again: got true", id)
			}
			w.wants(1, left...)
		}
	}
}

func TestAllIntegersAreListsAndIds(t *testing.T) {
	w := newWorld(t, edges, edges)
	for _, list := range edges {
		for _, id := range edges {
			if !w.add(list, id) || w.add(list, id) {
				t.Errorf("Add(%d, %d)", list, id)
			}
		}
		w.wantAll()
	}
	if got := w.c.Len(); got != len(edges)*len(edges) {
		t.Errorf("Len: got %d", got)
	}
	// From each list another one is left out.
	for i, list := range edges {
		if !w.cut(list, edges[i]) || w.cut(list, edges[i]) {
			t.Errorf("Cut(%d, %d)", list, edges[i])
		}
		w.wantAll()
	}
	for _, id := range edges {
		for _, list := range edges {
			w.cut(list, id)
		}
		w.wantAll()
	}
	if got := w.c.Len(); got != 0 {
		t.Errorf("Len: got %d", got)
	}
}

func TestOneIdAtAnEdge(t *testing.T) {
	for _, list := range edges {
		for _, id := range edges {
			w := newWorld(t, edges, edges)
			w.adds(list, id)
			w.wants(list, id)
			w.cuts(list, id)
			w.wants(list)
		}
	}
}

func TestTheSameIdInSeveralLists(t *testing.T) {
	w := newWorld(t, upTo(4), []int{6, 7, 8})
	for list := range 3 {
		w.adds(list+1, 6, 7, 8)
	}
	w.cuts(2, 7)
	w.wants(1, 8, 7, 6)
	w.wants(2, 8, 6)
	w.wants(3, 8, 7, 6)
	w.cuts(1, 8)
	w.cuts(3, 6)
	w.wants(1, 7, 6)
	w.wants(2, 8, 6)
	w.wants(3, 8, 7)
	w.adds(2, 7)
	w.wants(2, 7, 8, 6)
	w.cuts(1, 7, 6)
	w.wants(1)
	w.wants(2, 7, 8, 6)
	w.wants(3, 8, 7)
	if got := w.c.Len(); got != 5 {
		t.Errorf("Len: got %d", got)
	}
}

func TestIdsThatAreNumbersOfLists(t *testing.T) {
	w := newWorld(t, upTo(4), upTo(4))
	w.adds(1, 2)
	if w.c.Has(2, 1) || w.c.Cut(2, 1) {
		t.Error("2 in list 1 is taken for 1 in list 2")
	}
	w.adds(2, 1)
	w.adds(1, 1, 3)
	w.adds(3, 1, 3)
	w.adds(2, 2)
	w.wants(1, 3, 1, 2)
	w.wants(2, 2, 1)
	w.wants(3, 3, 1)
	w.cuts(1, 2)
	w.wants(1, 3, 1)
	w.wants(2, 2, 1)
	w.cuts(3, 1)
	w.wants(1, 3, 1)
	w.wants(3, 3)
	w.cuts(1, 1)
	w.wants(1, 3)
	w.wants(2, 2, 1)
	w.wants(4)
}

func TestCutAtEveryPlace(t *testing.T) {
	for _, x := range []struct {
		n, id int
		left  []int
	}{
		{1, 1, nil},
		{2, 2, []int{1}},
		{2, 1, []int{2}},
		{3, 3, []int{2, 1}},
		{3, 2, []int{3, 1}},
		{3, 1, []int{3, 2}},
		{5, 5, []int{4, 3, 2, 1}},
		{5, 4, []int{5, 3, 2, 1}},
		{5, 3, []int{5, 4, 2, 1}},
		{5, 2, []int{5, 4, 3, 1}},
		{5, 1, []int{5, 4, 3, 2}},
	} {
		w := newWorld(t, []int{0, 1, 2}, append(upTo(x.n), 10))
		w.adds(0, upTo(x.n)...)
		w.adds(1, upTo(x.n)...)
		w.adds(2, upTo(x.n)...)
		w.cuts(1, x.id)
		w.wants(1, x.left...)
		w.wants(0, downFrom(x.n)...)
		w.wants(2, downFrom(x.n)...)
		// What is left takes others at its front.
		w.adds(1, 10)
		w.wants(1, append([]int{10}, x.left...)...)
		w.adds(1, x.id)
		w.wants(1, append([]int{x.id, 10}, x.left...)...)
	}
}

// orders calls f with every order of l.
func orders(l []int, f func(l []int)) {
	var from func(i int)
	from = func(i int) {
		if i == len(l) {
			f(slices.Clone(l))
			return
		}
		for k := i; k < len(l); k++ {
			l[i], l[k] = l[k], l[i]
			from(i + 1)
			l[i], l[k] = l[k], l[i]
		}
	}
	from(0)
}

func TestCutInEveryOrder(t *testing.T) {
	for n := 1; n <= 6; n++ {
		orders(upTo(n), func(l []int) {
			w := newWorld(t, []int{1, 2}, upTo(n))
			w.adds(1, upTo(n)...)
			w.adds(2, 1)
			w.cuts(1, l...)
			w.wants(1)
			w.wants(2, 1)
		})
	}
}

func TestAddedAgainAtTheFront(t *testing.T) {
	for n := 1; n <= 5; n++ {
		for id := 1; id <= n; id++ {
			w := newWorld(t, []int{1}, upTo(n))
			w.adds(1, upTo(n)...)
			w.cuts(1, id)
			others := slices.DeleteFunc(downFrom(n), func(other int) bool { return other == id })
			w.wants(1, others...)
			for range 3 {
				w.adds(1, id)
				w.wants(1, append([]int{id}, others...)...)
				w.cuts(1, id)
				w.wants(1, others...)
			}
		}
	}
}

func TestEmptiedAndFilledAgain(t *testing.T) {
	w := newWorld(t, []int{1, 2, 3}, upTo(5))
	w.adds(2, 4)
	for range 3 {
		w.adds(1, 1, 2, 3)
		w.wants(1, 3, 2, 1)
		w.cuts(1, 2, 3, 1)
		w.wants(1)
		w.adds(1, 5)
		w.wants(1, 5)
		w.cuts(1, 5)
		w.wants(1)
		w.adds(1, 2, 1)
		w.wants(1, 1, 2)
		w.cuts(1, 1, 2)
		w.wants(1)
		w.wants(2, 4)
	}
	w.cuts(2, 4)
	if got := w.c.Len(); got != 0 {
		t.Errorf("Len: got %d", got)
	}
	w.adds(2, 4, 5)
	w.wants(2, 5, 4)
}

func TestAListThatWasNeverAddedTo(t *testing.T) {
	w := newWorld(t, []int{1, 2}, upTo(3))
	w.adds(1, 1, 2, 3)
	for _, list := range edges {
		if list == 1 {
			continue
		}
		w.wants(list)
		if w.c.Has(list, 0) || w.c.Has(list, 1) || w.c.Cut(list, 1) || w.c.Cut(list, list) {
			t.Errorf("list %d has ids", list)
		}
		w.wants(list)
		w.wants(1, 3, 2, 1)
	}
}

func TestLenCountsAllLists(t *testing.T) {
	c := chain.New()
	want := func(n int) {
		t.Helper()
		if got := c.Len(); got != n {
			t.Fatalf("got %d, want %d", got, n)
		}
	}
	want(0)
	for i := range 10 {
		for k := range 10 {
			c.Add(i, k)
			want(10*i + k + 1)
			c.Add(i, k)
			want(10*i + k + 1)
		}
	}
	for k := range 10 {
		for i := range 10 {
			c.Cut(i, k+10)
			want(100 - 10*k - i)
			c.Cut(i, k)
			want(99 - 10*k - i)
			c.Cut(i, k)
			want(99 - 10*k - i)
		}
	}
}

func TestAskingChangesNothing(t *testing.T) {
	w := newWorld(t, []int{1, 2, 3}, upTo(4))
	w.adds(1, 1, 2, 3)
	w.adds(2, 2)
	for range 10 {
		w.wants(1, 3, 2, 1)
		w.wants(2, 2)
		w.wants(3)
	}
}

func TestTwoListsDoNotKnowEachOther(t *testing.T) {
	a, b := newWorld(t, []int{1, 2}, upTo(3)), newWorld(t, []int{1, 2}, upTo(3))
	a.adds(1, 1, 2)
	b.wants(1)
	b.adds(1, 2, 1, 3)
	b.cuts(1, 1)
	a.wants(1, 2, 1)
	b.wants(1, 3, 2)
}

func TestALongList(t *testing.T) {
	// Add, Cut and Has must not go through the whole list each time.
	const n = 200000
	c := chain.New()
	for id := range n {
		if !c.Add(1, id) {
			t.Fatalf("Add(1, %d): got false", id)
		}
	}
	for id := 0; id < n; id += 2 {
		if !c.Cut(1, id) || c.Has(1, id) || !c.Has(1, id+1) {
			t.Fatalf("Cut(1, %d)", id)
		}
	}
	if c.Len() != n/2 {
		t.Errorf("Len: got %d", c.Len())
	}
	walk, back := c.Walk(1), c.Back(1)
	if len(walk) != n/2 || len(back) != n/2 {
		t.Fatalf("got %d and %d ids", len(walk), len(back))
	}
	for i := range n / 2 {
		if walk[i] != n-1-2*i || back[i] != 2*i+1 {
			t.Fatalf("at %d: got %d and %d", i, walk[i], back[i])
		}
	}
}

func TestManyLists(t *testing.T) {
	const n = 100000
	c := chain.New()
	for i := range n {
		c.Add(i, -i)
		c.Add(i, i+1)
	}
	for i := 0; i < n; i += 2 {
		c.Cut(i, -i)
	}
	if got := c.Len(); got != n+n/2 {
		t.Errorf("Len: got %d", got)
	}
	for i := range n {
		want := []int{i + 1, -i}[:1+i%2]
		if got := c.Walk(i); !slices.Equal(got, want) {
			t.Fatalf("Walk(%d): got %v", i, got)
		}
	}
}

// P8.2

// spoil overwrites a result, with its unused capacity, and appends to it.
func spoil(l []int) {
	l = l[:cap(l)]
	for i := range l {
		l[i] = 99
	}
	_ = append(l[:0], 98, 97, 96)
}

func TestResultsAreNew(t *testing.T) {
	for n := range 10 {
		w := newWorld(t, []int{1, 2}, append(upTo(n), 96, 97, 98, 99))
		w.adds(1, upTo(n)...)
		w.adds(2, upTo(n)...)
		for range 2 {
			spoil(w.c.Walk(1))
			w.wants(1, downFrom(n)...)
			spoil(w.c.Back(1))
			w.wants(1, downFrom(n)...)
			w.wants(2, downFrom(n)...)
		}
		w.adds(1, 50)
		w.wants(1, append([]int{50}, downFrom(n)...)...)
	}
}

func TestResultsShareNothing(t *testing.T) {
	for n := range 10 {
		c := chain.New()
		for id := range n {
			c.Add(1, id+1)
			c.Add(2, id+1)
		}
		ask := []func() []int{
			func() []int { return c.Walk(1) },
			func() []int { return c.Back(1) },
			func() []int { return c.Walk(2) },
			func() []int { return c.Back(2) },
		}
		wants := [][]int{downFrom(n), upTo(n), downFrom(n), upTo(n)}
		for i, first := range ask {
			for k, second := range ask {
				a, b := first(), second()
				spoil(a)
				if !slices.Equal(b, wants[k]) {
					t.Errorf("%d ids: result %d is changed by %d: %v", n, k, i, b)
				}
			}
		}
	}
}

func TestResultsDoNotChangeLater(t *testing.T) {
	c := chain.New()
	for id := range 6 {
		c.Add(1, id+1)
	}
	walk, back := c.Walk(1), c.Back(1)
	for _, f := range []func(){
		func() { c.Add(1, 7) },
		func() { c.Cut(1, 3) },
		func() { c.Cut(1, 7) },
		func() { c.Add(1, 3) },
		func() { c.Walk(1) },
		func() { c.Back(1) },
		func() { c.Add(2, 8) },
		func() {
			for id := range 10 {
				c.Cut(1, id)
			}
		},
		func() { c.Add(1, 9) },
	} {
		f()
		if !slices.Equal(walk, downFrom(6)) || !slices.Equal(back, upTo(6)) {
			t.Fatalf("got %v and %v", walk, back)
		}
	}
}

func TestNilLists(t *testing.T) {
	var c *chain.Lists
	look := func() {
		t.Helper()
		if got := c.Len(); got != 0 {
			t.Errorf("Len: got %d", got)
		}
		for _, list := range edges {
			if got := c.Walk(list); len(got) != 0 {
				t.Errorf("Walk(%d): got %v", list, got)
			}
			if got := c.Back(list); len(got) != 0 {
				t.Errorf("Back(%d): got %v", list, got)
			}
			for _, id := range edges {
				if c.Has(list, id) {
					t.Errorf("Has(%d, %d): got true", list, id)
				}
			}
		}
	}
	look()
	for _, list := range edges {
		for _, id := range edges {
			if c.Add(list, id) {
				t.Errorf("Add(%d, %d): got true", list, id)
			}
			if c.Cut(list, id) {
				t.Errorf("Cut(%d, %d): got true", list, id)
			}
		}
	}
	c.Add(1, 2)
	look()
	// What is added to nil is not found elsewhere.
	newWorld(t, edges, edges).wantAll()
	w := newWorld(t, []int{1}, upTo(3))
	w.adds(1, 1, 2)
	c.Add(1, 3)
	c.Cut(1, 1)
	w.wants(1, 2, 1)
	look()
}

// What holds everywhere

func TestZeroListsAreEmpty(t *testing.T) {
	w := newWorld(t, []int{0, 1}, []int{0, 1, 2})
	w.c = &chain.Lists{}
	w.wantAll()
	if w.cut(0, 0) || w.cut(1, 1) {
		t.Error("Cut: got true")
	}
	w.wantAll()
	w.adds(1, 1, 2)
	w.adds(0, 0)
	w.wants(1, 2, 1)
	w.cuts(1, 1)
	w.wants(1, 2)
}

func TestCopiedListsGoOn(t *testing.T) {
	for n := range 4 {
		w := newWorld(t, []int{1, 2}, upTo(6))
		w.adds(1, upTo(n)...)
		copied := *w.c
		w.c = &copied
		w.wants(1, downFrom(n)...)
		w.adds(1, 5)
		w.adds(2, 6)
		w.wants(1, append([]int{5}, downFrom(n)...)...)
		w.cuts(1, upTo(n)...)
		w.wants(1, 5)
	}
}

// heap returns how many bytes are in use.
func heap() uint64 {
	runtime.GC()
	var m runtime.MemStats
	runtime.ReadMemStats(&m)
	return m.HeapAlloc
}

func TestWhatIsCutIsNotKept(t *testing.T) {
	c := chain.New()
	c.Add(-1, -1)
	before := heap()
	for i := range 300000 {
		c.Add(i, 1)
		c.Add(i, 2)
		c.Cut(i, 1)
		c.Cut(i, 2)
		c.Add(-1, i)
		c.Cut(-1, i)
		c.Has(-i-2, i)
		c.Walk(-i - 2)
		c.Cut(-i-2, i)
	}
	if after := heap(); after > before+1<<20 {
		t.Errorf("%d bytes are kept", after-before)
	}
	if got := c.Walk(-1); !slices.Equal(got, []int{-1}) || c.Len() != 1 {
		t.Errorf("got %v, and %d ids", got, c.Len())
	}
}

// All sequences

// step is an Add or a Cut.
type step struct {
	cut      bool
	list, id int
}

func (w *world) do(x step) {
	w.t.Helper()
	if x.cut {
		w.cut(x.list, x.id)
	} else {
		w.add(x.list, x.id)
	}
}

// steps returns every step with these lists and ids.
func steps(lists, ids []int) []step {
	var l []step
	for _, list := range lists {
		for _, id := range ids {
			l = append(l, step{false, list, id}, step{true, list, id})
		}
	}
	return l
}

// every looks at all after each sequence of at most most steps.
func every(t *testing.T, lists, ids []int, most int) {
	t.Helper()
	all := steps(lists, ids)
	var from func(past []step)
	from = func(past []step) {
		w := newWorld(t, lists, ids)
		for _, x := range past {
			w.do(x)
		}
		w.wantAll()
		if len(past) == most {
			return
		}
		for _, x := range all {
			from(append(past[:len(past):len(past)], x))
		}
	}
	from(nil)
}

func TestEveryShortSequence(t *testing.T) {
	every(t, []int{1}, []int{1, 2, 3}, 6)
	every(t, []int{0, -1}, []int{-1, 0}, 5)
	every(t, []int{1, 2}, []int{1, 2, 3}, 4)
	every(t, []int{math.MinInt, 0, math.MaxInt}, []int{math.MaxInt, math.MinInt}, 4)
}

// follow takes each byte of a script as a step, and looks at all after each.
func follow(t *testing.T, lists, ids []int, script []byte) {
	t.Helper()
	w := newWorld(t, lists, ids)
	all := steps(lists, ids)
	for _, b := range script {
		w.do(all[int(b)%len(all)])
		w.wantAll()
	}
}

func TestLongScripts(t *testing.T) {
	for seed := range uint64(500) {
		r := rand.New(rand.NewPCG(seed, 8))
		script := make([]byte, 200)
		for i := range script {
			script[i] = byte(r.UintN(256))
		}
		lists, ids := edges[:1+seed%4], edges[:1+r.UintN(uint(len(edges)))]
		follow(t, lists, ids, script)
	}
}

func FuzzLists(f *testing.F) {
	f.Add([]byte{0, 2, 4, 1, 3, 5})
	f.Add([]byte{0, 2, 4, 3, 2, 1, 0, 12, 14, 13, 15})
	f.Fuzz(func(t *testing.T, script []byte) {
		follow(t, []int{0, 1, -1}, []int{0, 1, -1, 2, math.MaxInt, math.MinInt}, script[:min(len(script), 300)])
	})
}
