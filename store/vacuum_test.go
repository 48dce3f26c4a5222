package store_test

import (
	"fmt"
	"math"
	"reflect"
	"runtime"
	"slices"
	"strings"
	"testing"
	"unsafe"

	"ligature/api"
	"ligature/record"
	"ligature/store"
)

// P11.5

// slotted asks for Slots.
func (w *world) slotted(want int) {
	w.t.Helper()
	if got := w.s.Slots(); got != want {
		w.fail("Slots: got %d, want %d", got, want)
	}
}

// drained asks how many versions Vacuum removes.
func (w *world) drained(want int) {
	w.t.Helper()
	if got := w.drain(); got != want {
		w.fail("Vacuum removed %d versions, want %d", got, want)
	}
}

// least counts what the Image takes: so many slots are left without transactions and old versions.
func (w *world) least() int {
	_, _, l := w.s.Image()
	n := 0
	for _, y := range l {
		n += 1 + len(y.N.Labels) + len(y.N.Props)
		if y.Edge {
			n += 2
		}
	}
	return n
}

func TestVacuumOfAnEmptyStore(t *testing.T) {
	w := newWorld(t)
	w.drained(0)
	a := w.begin()
	w.drained(0)
	w.did(w.commit(a))
	w.drained(0)
	w.slotted(0)
}

func TestVacuumOfOldVersions(t *testing.T) {
	w := newWorld(t)
	a := w.begin()
	w.adds(a, with(labels("a"), "k", whole(0)))
	w.did(w.commit(a))
	for i := 1; i <= 5; i++ {
		a := w.begin()
		w.did(w.setNode(a, 1, with(labels("a"), "k", whole(i))), w.commit(a))
		// Each version and each value, and the label once.
		w.slotted(2*(i+1) + 1)
	}
	for i := 5; i > 0; i-- {
		if !w.vacuum() {
			t.Error("Vacuum: got false")
		}
		w.slotted(2*i + 1)
	}
	w.drained(0)
	w.slotted(3)
}

func TestVacuumOfWhatIsGone(t *testing.T) {
	w := base(t)
	a := w.begin()
	w.did(w.dropNode(a, 4), w.dropNode(a, 5), w.dropEdge(a, 2), w.commit(a))
	// Of nodes 4 and 5 and edge 2 two versions each, and one of node 3, which was touched.
	w.drained(7)
	w.slotted(w.least())
	b := w.begin()
	w.did(w.dropNode(b, 3), w.dropEdge(b, 1), w.dropEdge(b, 3), w.dropNode(b, 1), w.dropNode(b, 2), w.commit(b))
	w.drained(10)
	w.slotted(0)
	if got := store.Keys(w.s); got != 0 {
		t.Errorf("an index is kept for %d keys", got)
	}
}

func TestVacuumOfWhatWasAddedAndDropped(t *testing.T) {
	w := newWorld(t)
	a := w.begin()
	w.adds(a, labels("a"), labels("b"))
	w.ties(a, edge(1, 2))
	w.slotted(2 + 2 + 3)
	w.did(w.dropEdge(a, 1), w.dropNode(a, 1))
	// The removals are versions, and what they have replaced is not.
	w.slotted(3 + 1)
	w.drained(0)
	w.did(w.commit(a))
	w.drained(2)
	w.slotted(2)
}

func TestVacuumWithLiveTransactions(t *testing.T) {
	w := newWorld(t)
	a := w.begin()
	w.adds(a, valued("k", whole(0)), labels("a"))
	w.ties(a, edge(1, 2))
	w.did(w.commit(a))
	old := w.begin()
	for i := 1; i <= 3; i++ {
		b := w.begin()
		w.did(w.setNode(b, 1, valued("k", whole(i))), w.commit(b))
	}
	mid := w.begin()
	c := w.begin()
	w.did(w.dropEdge(c, 1), w.dropNode(c, 2), w.setNode(c, 1, valued("k", whole(4))), w.commit(c))
	// Nothing that followed the first versions is seen by all.
	w.drained(0)
	w.tells(w.s.Range(old, "k", whole(0), whole(4)), 1)
	w.tells(w.s.Range(old, "k", whole(0), whole(0)), 1)
	w.tells(w.s.Edges(old), 1)
	w.did(w.abort(old))
	// mid sees the fourth version of node 1, so that three are of no use.
	w.drained(3)
	w.tells(w.s.Range(mid, "k", whole(0), whole(4)), 1)
	w.tells(w.s.Range(mid, "k", whole(3), whole(3)), 1)
	w.tells(w.s.Edges(mid), 1)
	w.did(w.commit(mid))
	w.drained(1 + 2 + 2)
	w.slotted(2)
}

func TestVacuumWithAWriterThatIsLive(t *testing.T) {
	w := base(t)
	a := w.begin()
	w.did(w.setNode(a, 1, labels("z")), w.dropNode(a, 4), w.dropEdge(a, 2))
	before := w.s.Slots()
	w.drained(0)
	w.slotted(before)
	w.did(w.abort(a))
	w.drained(0)
	w.slotted(w.least())
}

func TestVacuumAfterAborts(t *testing.T) {
	w := base(t)
	least := w.least()
	w.slotted(least)
	for range 3 {
		a, b := w.begin(), w.begin()
		w.did(w.setNode(a, 1, valued("l", text("p"))), w.dropNode(b, 4))
		w.adds(b, labels("z"))
		w.same(w.setNode(b, 1, labels("y")), api.ErrClash)
		w.did(w.abort(a))
		w.drained(0)
		w.slotted(least)
	}
	c := w.begin()
	w.did(w.setNode(c, 1, valued("l", text("p"))), w.commit(c))
	d := w.begin()
	w.did(w.setNode(d, 1, labels("a")), w.abort(d))
	w.drained(1)
	w.slotted(w.least())
}

func TestVacuumLeavesWhatVersionsHaveInCommon(t *testing.T) {
	w := newWorld(t)
	a := w.begin()
	w.adds(a, with(with(labels("a", "b"), "k", number(negZero)), "l", number(nan)))
	w.did(w.commit(a))
	b := w.begin()
	w.did(w.setNode(b, 1, with(with(labels("b", "c"), "k", number(0)), "l", number(nan))), w.commit(b))
	w.slotted(2 + 3 + 3)
	w.drained(1)
	w.slotted(1 + 2 + 2)
	c := w.begin()
	w.tells(w.s.Label(c, "b"), 1)
	w.tells(w.s.Range(c, "l", number(nan), number(nan)), 1)
	w.tells(w.s.Range(c, "k", number(negZero), number(0)), 1)
	w.did(w.commit(c))
	// Two versions with the same contents.
	d := w.begin()
	w.did(w.setNode(d, 1, with(with(labels("b", "c"), "k", number(0)), "l", number(nan))), w.commit(d))
	w.slotted(2 + 2 + 2)
	w.drained(1)
	w.slotted(1 + 2 + 2)
}

func TestVacuumOfManyVersions(t *testing.T) {
	w := newWorld(t)
	s := w.s
	a, _ := s.Begin()
	s.AddNode(a, api.Node{})
	s.Commit(a)
	const n = 1000
	for i := range n {
		a, _ := s.Begin()
		key := string([]byte{'a' + byte(i%26), 'a' + byte(i/26%26), 'a' + byte(i/676)})
		if err := s.SetNode(a, 1, with(labels(key), key, whole(i))); err != api.OK {
			t.Fatal(err)
		}
		s.Commit(a)
	}
	if s.Slots() != 1+3*n || store.Keys(s) != n {
		t.Fatalf("Slots: got %d, with %d keys", s.Slots(), store.Keys(s))
	}
	for i := range n {
		// The first version has neither label nor value.
		if !s.Vacuum() || s.Slots() != 3*(n-i) {
			t.Fatalf("Slots: got %d after %d", s.Slots(), i+1)
		}
	}
	if s.Vacuum() || s.Slots() != 3 || store.Keys(s) != 1 {
		t.Errorf("Slots: got %d, with %d keys", s.Slots(), store.Keys(s))
	}
}

func TestNothingIsKeptOfWhatIsGone(t *testing.T) {
	s := store.New()
	if err := s.Load(1, 0, []api.Write{{ID: 1}}); err != api.OK {
		t.Fatal(err)
	}
	run := func(n int) {
		for i := range n {
			a, _ := s.Begin()
			key := strings.Repeat(string(rune('a'+i%26)), 1+i/26%8)
			if err := s.SetNode(a, 1, with(labels(key), key, text(fmt.Sprint(i)))); err != api.OK {
				t.Fatal(err)
			}
			if i%3 == 0 {
				s.Abort(a)
			} else {
				s.Commit(a)
			}
			for s.Vacuum() {
			}
		}
	}
	run(100)
	before := heap()
	const n = 20000
	run(n)
	// The Clock keeps some words of each transaction.
	if used := heap() - before; used > n*64+1<<20 {
		t.Errorf("%d bytes more are in use", used)
	}
	runtime.KeepAlive(s)
}

// heap returns the number of bytes in use.
func heap() int {
	runtime.GC()
	var m runtime.MemStats
	runtime.ReadMemStats(&m)
	return int(m.HeapAlloc)
}

func TestLive(t *testing.T) {
	w := base(t)
	a, b := w.begin(), w.begin()
	if w.s.Live() != 2 {
		t.Errorf("got %d", w.s.Live())
	}
	w.did(w.setNode(a, 1, api.Node{}))
	w.same(w.setNode(b, 1, api.Node{}), api.ErrClash)
	if w.s.Live() != 1 {
		t.Errorf("got %d", w.s.Live())
	}
	w.did(w.commit(a))
	if w.s.Live() != 0 {
		t.Errorf("got %d", w.s.Live())
	}
}

// P11.6

func TestAllFunctionsOfANilStore(t *testing.T) {
	var s *store.Store
	for range 2 {
		for _, n := range []int{1, 0, -1, math.MaxInt} {
			id, err := s.AddNode(n, labels("a"))
			is, other := s.AddEdge(n, edge(1, 1))
			nodes, edges, l, third := s.Pending(n)
			if id != 0 || is != 0 || nodes != 0 || edges != 0 || len(l) != 0 {
				t.Errorf("got %d, %d, %d, %d, %v", id, is, nodes, edges, l)
			}
			_, invalid := s.AddNode(n, labels("A"))
			_, wrong := s.AddEdge(n, api.Edge{})
			for i, e := range []api.Errno{
				err, other, third, invalid, wrong, s.Commit(n), s.Abort(n), s.SetNode(n, 1, labels("a")), s.SetNode(n, 1, labels("A")),
				s.DropNode(n, 1), s.DropEdge(n, 1),
			} {
				if e != api.ErrState {
					t.Errorf("%d: got %d", i, e)
				}
			}
			m, ok := s.Node(n, 1)
			e, found := s.Edge(n, 1)
			if ok || found || !reflect.ValueOf(m).IsZero() || e != (api.Edge{}) {
				t.Errorf("got %v, %t, %v, %t", m, ok, e, found)
			}
			for i, l := range [][]int{s.Nodes(n), s.Edges(n), s.Out(n, 1), s.In(n, 1), s.Label(n, "a"), s.Label(n, ""), s.Range(n, "k", api.Val{}, whole(1)), s.Range(n, "", api.Val{N: 1}, whole(1))} {
				if len(l) != 0 {
					t.Errorf("%d: got %v", i, l)
				}
			}
		}
		if n, err := s.Begin(); n != 0 || err != api.ErrState {
			t.Errorf("Begin: got %d, %d", n, err)
		}
		for i, err := range []api.Errno{s.Load(0, 0, nil), s.Load(1, 0, []api.Write{{ID: 1}}), s.Load(-1, 0, nil), s.Load(1, 1, []api.Write{{ID: 9}})} {
			if err != api.ErrState {
				t.Errorf("Load, %d: got %d", i, err)
			}
		}
		if nodes, edges, l := s.Image(); nodes != 0 || edges != 0 || len(l) != 0 || s.Vacuum() || s.Slots() != 0 || s.Live() != 0 {
			t.Errorf("got %d, %d, %v", nodes, edges, l)
		}
	}
}

func TestAZeroStoreIsEmpty(t *testing.T) {
	w := newWorld(t)
	w.s = &store.Store{}
	if w.s.Vacuum() || w.s.Slots() != 0 || w.s.Live() != 0 {
		t.Error("it is not empty")
	}
	w.look()
	w.same(w.commit(1), api.ErrState)
	w.same(w.setNode(1, 1, api.Node{}), api.ErrState)
	a := w.begin()
	w.adds(a, with(labels("a"), "k", whole(1)))
	w.ties(a, edge(1, 1))
	w.did(w.commit(a))
	w.drained(0)
}

func TestACopyOfAStore(t *testing.T) {
	w := base(t)
	a := w.begin()
	w.did(w.setNode(a, 1, labels("z")))
	s := *w.s
	w.s = &s
	w.look()
	w.adds(a, labels("y"))
	w.ties(a, edge(6, 1))
	w.did(w.commit(a))
	w.drain()
}

func TestArgumentsAreNotKept(t *testing.T) {
	// In all tests of this package an argument is written all over after each call. Here one is used
	// for two nodes, and one result is changed in one place.
	s := store.New()
	a, _ := s.Begin()
	n := roomy(with(labels("a", "b"), "k", whole(1)))
	s.AddNode(a, n)
	s.AddNode(a, n)
	s.SetNode(a, 2, n)
	s.AddEdge(a, edge(1, 2))
	want := with(labels("a", "b"), "k", whole(1))
	_, _, l, _ := s.Pending(a)
	scribble(l[0].N)
	if !record.Same(l[1].N, want) || !record.Same(n, want) {
		t.Errorf("got %v, and the argument is %v", l, n)
	}
	s.Commit(a)
	_, _, l = s.Image()
	scribble(l[1].N)
	if !record.Same(l[0].N, want) || !record.Same(n, want) {
		t.Errorf("got %v, and the argument is %v", l, n)
	}
	b, _ := s.Begin()
	for range 2 {
		for id := range 3 {
			m, ok := s.Node(b, id)
			if ok && !record.Same(m, want) {
				t.Errorf("got %v", m)
			}
			scribble(m)
		}
	}
}

func TestAnEmptyArgumentIsNotKept(t *testing.T) {
	// Slices without elements may have memory as well.
	s := store.New()
	a, _ := s.Begin()
	room := api.Node{Labels: make([]string, 0, 3), Props: make([]api.Prop, 0, 3)}
	s.AddNode(a, room)
	s.Load(1, 0, []api.Write{{ID: 1, N: room}})
	m, _ := s.Node(a, 1)
	if cap(m.Labels) != 0 && &m.Labels[:1][0] == &room.Labels[:1][0] || cap(m.Props) != 0 && &m.Props[:1][0] == &room.Props[:1][0] {
		t.Error("the memory of the argument is returned")
	}
}

// texts returns all strings of a node and an edge.
func texts(n api.Node, e api.Edge) []string {
	l := append([]string{e.Type}, n.Labels...)
	for _, p := range n.Props {
		l = append(l, p.Key, p.V.T)
	}
	return l
}

// apartFrom tells whether no string of one list has its bytes where one of the other has them.
func apartFrom(a, b []string) bool {
	for _, s := range a {
		for _, t := range b {
			if unsafe.StringData(s) == unsafe.StringData(t) {
				return false
			}
		}
	}
	return len(a) == 4 && len(b) == 4
}

func TestStringsAreCopied(t *testing.T) {
	s := store.New()
	a, _ := s.Begin()
	// Parts of a long string, which would be kept with each of them.
	long := strings.Repeat("abcd", 1000)
	n := with(labels(long[:2]), long[4:6], text(long[8:11]))
	e := api.Edge{From: 1, To: 1, Type: long[12:13], W: 1}
	s.AddNode(a, n)
	s.AddEdge(a, e)
	read := func() []string {
		m, _ := s.Node(a, 1)
		f, _ := s.Edge(a, 1)
		return texts(m, f)
	}
	pending := func() []string {
		_, _, l, _ := s.Pending(a)
		return texts(l[0].N, l[1].E)
	}
	image := func() []string {
		_, _, l := s.Image()
		return texts(l[0].N, l[1].E)
	}
	wantApart := func(asks ...func() []string) {
		t.Helper()
		var all [][]string
		for _, ask := range asks {
			all = append(all, ask(), ask())
		}
		for i, l := range all {
			if !apartFrom(l, texts(n, e)) {
				t.Errorf("%d: %q is part of the argument", i, l)
			}
			for _, m := range all[:i] {
				if !apartFrom(l, m) {
					t.Errorf("%d: %q is part of another result", i, l)
				}
			}
		}
	}
	wantApart(read, pending)
	s.SetNode(a, 1, n)
	wantApart(read, pending)
	s.Commit(a)
	s.Load(1, 1, []api.Write{{ID: 1, N: n}, {Edge: true, ID: 1, E: e}})
	a, _ = s.Begin()
	wantApart(read, image)
}

func TestLongStringsAreNotKept(t *testing.T) {
	const size = 1 << 20
	part := func() string { return strings.Repeat("k", size)[:3] }
	n := func() api.Node { return with(labels(part()), part(), text(part())) }
	e := func() api.Edge { return api.Edge{From: 1, To: 1, Type: part(), W: 1} }
	for name, write := range map[string]func(s *store.Store){
		"AddNode": func(s *store.Store) {
			a, _ := s.Begin()
			s.AddNode(a, n())
			s.Commit(a)
		},
		"SetNode": func(s *store.Store) {
			a, _ := s.Begin()
			s.SetNode(a, 1, n())
			s.Commit(a)
		},
		"AddEdge": func(s *store.Store) {
			a, _ := s.Begin()
			s.AddEdge(a, e())
			s.Commit(a)
		},
		"Load": func(s *store.Store) {
			s.Load(2, 1, []api.Write{{ID: 2, N: n()}, {Edge: true, ID: 1, E: e()}})
		},
	} {
		s := store.New()
		s.Load(1, 0, []api.Write{{ID: 1}})
		before, slots := heap(), s.Slots()
		for range 4 {
			write(s)
		}
		if used := heap() - before; used > size/2 || s.Slots() == slots {
			t.Errorf("%s: %d bytes more are in use, with %d slots", name, used, s.Slots())
		}
		runtime.KeepAlive(s)
	}
}

// results has all that a Store tells at one time.
type results struct {
	nodes   []api.Node
	edges   []api.Edge
	ids     [][]int
	pending []api.Write
	image   []api.Write
}

// resultsOf asks s for all it tells to t.
func resultsOf(s *store.Store, t int) results {
	var r results
	for id := 1; id <= api.MaxNodes; id++ {
		n, _ := s.Node(t, id)
		r.nodes = append(r.nodes, n)
		r.ids = append(r.ids, s.Out(t, id), s.In(t, id))
	}
	for id := 1; id <= api.MaxEdges; id++ {
		e, _ := s.Edge(t, id)
		r.edges = append(r.edges, e)
	}
	r.ids = append(r.ids, s.Nodes(t), s.Edges(t), s.Label(t, "a"), s.Range(t, "k", api.Val{}, text("~")))
	_, _, r.pending, _ = s.Pending(t)
	_, _, r.image = s.Image()
	return r
}

func TestResultsDoNotChange(t *testing.T) {
	w := base(t)
	var all []results
	var told []string
	take := func(n int) {
		r := resultsOf(w.s, n)
		all, told = append(all, r), append(told, fmt.Sprint(r))
	}
	a := w.begin()
	take(a)
	w.did(w.setNode(a, 1, valued("k", whole(7))), w.dropEdge(a, 2), w.dropNode(a, 5))
	w.ties(a, edge(1, 4), edge(4, 3))
	take(a)
	b := w.begin()
	take(b)
	w.did(w.setNode(a, 1, labels("a", "z")), w.setNode(a, 2, labels("z")), w.commit(a))
	take(b)
	w.did(w.abort(b))
	w.drain()
	w.did(w.load(9, 9, []api.Write{put(9, labels("a")), putEdge(9, edge(9, 9)), put(1, labels("z"))}))
	c := w.begin()
	take(c)
	w.did(w.dropEdge(c, 9), w.dropNode(c, 9))
	take(c)
	w.did(w.commit(c))
	w.drain()
	for i, r := range all {
		if got := fmt.Sprint(r); got != told[i] {
			t.Errorf("%d: got %s, and it was %s", i, got, told[i])
		}
	}
}

func TestResultsShareNothing(t *testing.T) {
	w := base(t)
	a := w.begin()
	w.did(w.setNode(a, 1, with(labels("a"), "k", whole(1))))
	w.ties(a, edge(1, 2))
	want := fmt.Sprint(resultsOf(w.s, a))
	for range 2 {
		r := resultsOf(w.s, a)
		other := resultsOf(w.s, a)
		for _, l := range r.ids {
			scrawl(l)
		}
		for _, n := range r.nodes {
			scribble(n)
		}
		scratch(r.pending)
		scratch(r.image)
		if got := fmt.Sprint(other); got != want {
			t.Errorf("got %s, want %s", got, want)
		}
		if got := fmt.Sprint(resultsOf(w.s, a)); got != want {
			t.Errorf("got %s, want %s", got, want)
		}
	}
	// No list of a result grows into another one.
	_, _, l := w.s.Image()
	for i := range l {
		_ = append(l[i].N.Labels, "junk")
		_ = append(l[i].N.Props, api.Prop{Key: "junk"})
	}
	w.lists(l, w.now.all()...)
	for id := 1; id <= 5; id++ {
		out := w.s.Out(a, id)
		in := w.s.In(a, id)
		was := slices.Clone(in)
		_ = append(out, -77)
		w.tells(in, was...)
	}
}

func TestAnEdgeThatIsReadHasItsNodes(t *testing.T) {
	// All orders in which one adds an edge, and the other drops its edges and its node, and each one
	// ends at some time by a commit or an abort.
	adds := []func(w *world, n int) api.Errno{addEdge(edge(4, 1)), addEdge(edge(3, 4)), nil}
	drops := []func(w *world, n int) api.Errno{dropEdge(2), dropNode(4), dropNode(3), nil}
	for ends := range 4 {
		for order := range 1 << (len(adds) + len(drops)) {
			w := base(t)
			a, b := w.begin(), w.begin()
			i, k := 0, 0
			for step := range len(adds) + len(drops) {
				if (order>>step&1 == 0 || k == len(drops)) && i < len(adds) {
					w.next(adds[i], a, ends&1 != 0)
					i++
				} else {
					w.next(drops[k], b, ends&2 != 0)
					k++
				}
			}
			if !w.now.joined() {
				t.Fatal("an edge lacks a node")
			}
			w.drain()
		}
	}
}

// next makes a call of t, or ends t.
func (w *world) next(call func(w *world, t int) api.Errno, t int, commits bool) {
	w.t.Helper()
	switch {
	case call != nil:
		call(w, t)
	case commits:
		w.commit(t)
	default:
		w.abort(t)
	}
}
