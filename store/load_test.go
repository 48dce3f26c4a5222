package store_test

import (
	"math"
	"slices"
	"testing"

	"ligature/api"
	"ligature/record"
	"ligature/store"
)

// P11.4

// lists asks for exactly these writes, as a test itself writes them out.
func (w *world) lists(got []api.Write, want ...api.Write) {
	w.t.Helper()
	if !slices.EqualFunc(got, want, sameWrite) {
		w.fail("got %v, want %v", got, want)
	}
}

// pends asks for the writes of t.
func (w *world) pends(t, nodes, edges int, want ...api.Write) {
	w.t.Helper()
	n, e, l, err := w.s.Pending(t)
	if n != nodes || e != edges || err != api.OK {
		w.fail("Pending: got %d, %d, %d, want %d, %d", n, e, err, nodes, edges)
	}
	w.lists(l, want...)
}

// images asks for the Image.
func (w *world) images(nodes, edges int, want ...api.Write) {
	w.t.Helper()
	n, e, l := w.s.Image()
	if n != nodes || e != edges {
		w.fail("Image: got %d, %d, want %d, %d", n, e, nodes, edges)
	}
	w.lists(l, want...)
}

// put and cut are writes.
func put(id int, n api.Node) api.Write     { return api.Write{ID: id, N: n} }
func putEdge(id int, e api.Edge) api.Write { return api.Write{Edge: true, ID: id, E: e} }
func cut(id int) api.Write                 { return api.Write{ID: id, Gone: true} }
func cutEdge(id int) api.Write             { return api.Write{Edge: true, ID: id, Gone: true} }

func TestPending(t *testing.T) {
	w := newWorld(t)
	a, b := w.begin(), w.begin()
	w.pends(a, 0, 0)
	w.adds(b, labels("b"))
	w.pends(a, 1, 0)
	w.pends(b, 1, 0, put(1, labels("b")))
	w.adds(a, labels("a"), labels("c"))
	w.ties(a, edge(3, 2))
	w.pends(a, 3, 1, put(2, labels("a")), put(3, labels("c")), putEdge(1, edge(3, 2)))
	w.pends(b, 3, 1, put(1, labels("b")))
	w.did(w.abort(b), w.commit(a))
	c := w.begin()
	w.pends(c, 3, 1)
}

func TestPendingOfAnElementWrittenSeveralTimes(t *testing.T) {
	w := base(t)
	a := w.begin()
	for i := range 5 {
		w.did(w.setNode(a, 4, valued("k", whole(i))), w.setNode(a, 1, valued("k", whole(-i))))
		w.pends(a, 5, 3, put(1, valued("k", whole(-i))), put(4, valued("k", whole(i))))
	}
	w.did(w.dropNode(a, 4))
	w.pends(a, 5, 3, put(1, valued("k", whole(-4))), cut(4))
	// One that is written as it was has been written.
	w.did(w.setNode(a, 5, api.Node{}))
	w.pends(a, 5, 3, put(1, valued("k", whole(-4))), cut(4), put(5, api.Node{}))
}

func TestPendingOfOneThatIsAddedAndDropped(t *testing.T) {
	w := newWorld(t)
	a := w.begin()
	w.adds(a, labels("a"), labels("b"))
	w.ties(a, edge(1, 2), edge(1, 1))
	w.did(w.dropEdge(a, 1), w.dropNode(a, 2))
	w.pends(a, 2, 2, put(1, labels("a")), cut(2), cutEdge(1), putEdge(2, edge(1, 1)))
	w.did(w.dropEdge(a, 2), w.dropNode(a, 1))
	w.pends(a, 2, 2, cut(1), cut(2), cutEdge(1), cutEdge(2))
	w.did(w.commit(a))
	w.images(2, 2)
}

func TestPendingOfTouchedNodes(t *testing.T) {
	w := base(t)
	a := w.begin()
	w.ties(a, edge(4, 1))
	one := with(labels("a"), "k", whole(1))
	w.pends(a, 5, 4, put(1, one), put(4, labels("c")), putEdge(4, edge(4, 1)))
	w.did(w.dropEdge(a, 2))
	w.pends(a, 5, 4, put(1, one), put(3, valued("k", whole(2))), put(4, labels("c")), cutEdge(2), putEdge(4, edge(4, 1)))
	w.did(w.dropEdge(a, 4), w.dropNode(a, 4))
	w.pends(a, 5, 4, put(1, one), put(3, valued("k", whole(2))), cut(4), cutEdge(2), cutEdge(4))
}

func TestPendingAfterAnErrorAndByOthers(t *testing.T) {
	w := base(t)
	a, b := w.begin(), w.begin()
	w.same(w.dropNode(a, 1), api.ErrEdges)
	w.same(w.setNode(a, 9, api.Node{}), api.ErrNone)
	w.pends(a, 5, 3)
	w.did(w.setNode(b, 4, labels("b")), w.abort(b))
	w.pends(a, 5, 3)
	// What another one has written and undone is not what a has written.
	c := w.begin()
	w.did(w.setNode(a, 4, labels("a")))
	w.pends(c, 5, 3)
	w.pends(a, 5, 3, put(4, labels("a")))
}

func TestImage(t *testing.T) {
	w := newWorld(t)
	w.images(0, 0)
	a, b := w.begin(), w.begin()
	w.adds(a, labels("a"), labels("b"))
	w.ties(a, edge(2, 1))
	w.adds(b, labels("c"))
	w.images(3, 1)
	w.did(w.commit(a))
	w.images(3, 1, put(1, labels("a")), put(2, labels("b")), putEdge(1, edge(2, 1)))
	w.did(w.abort(b))
	w.images(3, 1, put(1, labels("a")), put(2, labels("b")), putEdge(1, edge(2, 1)))
	c := w.begin()
	w.did(w.dropEdge(c, 1), w.dropNode(c, 1), w.setNode(c, 2, valued("k", number(nan))))
	w.images(3, 1, put(1, labels("a")), put(2, labels("b")), putEdge(1, edge(2, 1)))
	w.did(w.commit(c))
	w.images(3, 1, put(2, valued("k", number(nan))))
	w.drain()
	w.images(3, 1, put(2, valued("k", number(nan))))
	d := w.begin()
	w.did(w.dropNode(d, 2), w.commit(d))
	w.images(3, 1)
	w.drain()
	w.images(3, 1)
}

func TestLoadIntoAnEmptyStore(t *testing.T) {
	w := newWorld(t)
	l := []api.Write{
		putEdge(2, edge(5, 2)), put(5, with(labels("a", "b"), "k", number(negZero))), cutEdge(1),
		put(2, with(labels("b"), "k", number(0))), cut(3), putEdge(4, api.Edge{From: 2, To: 2, Type: "longtype", W: posInf}),
	}
	w.did(w.load(6, 5, l))
	w.images(6, 5, l[3], l[1], l[0], l[5])
	if w.s.Live() != 0 {
		t.Errorf("Live: got %d", w.s.Live())
	}
	// Six versions, three labels, two values, and two edges that are there.
	if w.s.Slots() != 6+3+2+4 {
		t.Errorf("Slots: got %d", w.s.Slots())
	}
	// It took one number of a transaction.
	if a := w.begin(); a != 2 {
		t.Errorf("got %d", a)
	}
	w.tells(w.s.Nodes(2), 2, 5)
	w.tells(w.s.Label(2, "b"), 2, 5)
	w.tells(w.s.Range(2, "k", number(negInf), number(nan)), 5, 2)
	w.tells(w.s.Out(2, 5), 2)
	w.tells(w.s.In(2, 2), 2, 4)
	if w.adds(2, api.Node{}) != 7 || w.ties(2, edge(7, 7)) != 6 {
		t.Error("the IDs after those loaded are wrong")
	}
	w.did(w.commit(2))
	// Three nodes, three labels, two values, and three edges with two entries each.
	if w.drain() != 2 || w.s.Slots() != 3+3+2+9 {
		t.Errorf("Slots: got %d", w.s.Slots())
	}
}

func TestLoadOfNothing(t *testing.T) {
	w := newWorld(t)
	for range 3 {
		w.did(w.load(0, 0, nil))
		w.did(w.load(0, 0, []api.Write{}))
	}
	w.images(0, 0)
	if a := w.begin(); a != 7 {
		t.Errorf("got %d: each Load is a transaction", a)
	}
	v := base(t)
	v.did(v.load(0, 0, nil))
	v.images(5, 3, put(1, with(labels("a"), "k", whole(1))), put(2, labels("a", "b")), put(3, valued("k", whole(2))),
		put(4, labels("c")), put(5, api.Node{}), putEdge(1, edge(1, 2)), putEdge(2, edge(3, 3)), putEdge(3, edge(1, 2)))
}

func TestLoadIntoAStoreWithElements(t *testing.T) {
	w := base(t)
	w.did(w.load(5, 3, []api.Write{put(1, labels("z")), cutEdge(2), cut(3), putEdge(3, api.Edge{From: 1, To: 2, Type: "u", W: 9})}))
	w.images(5, 3, put(1, labels("z")), put(2, labels("a", "b")), put(4, labels("c")), put(5, api.Node{}),
		putEdge(1, edge(1, 2)), putEdge(3, api.Edge{From: 1, To: 2, Type: "u", W: 9}))
	a := w.begin()
	w.tells(w.s.Label(a, "a"), 2)
	w.tells(w.s.Range(a, "k", api.Val{}, text("~~~~~~~~~~~~")))
	w.did(w.commit(a))
	w.drain()
	// One that was dropped may come again.
	w.did(w.load(5, 3, []api.Write{put(3, labels("y")), putEdge(2, edge(3, 1))}))
	b := w.begin()
	w.tells(w.s.Out(b, 3), 2)
	w.tells(w.s.In(b, 3))
	w.tells(w.s.In(b, 1), 2)
}

func TestLoadOfWhatEncodeRefuses(t *testing.T) {
	for _, begun := range []func(t *testing.T) *world{newWorld, base, full} {
		w := begun(t)
		for _, x := range []struct {
			nodes, edges int
			l            []api.Write
		}{
			{-1, 0, nil}, {0, -1, nil}, {api.MaxNodes + 1, 0, nil}, {0, api.MaxEdges + 1, nil},
			{math.MinInt, 0, nil}, {math.MaxInt, 0, nil}, {0, math.MinInt, nil}, {0, math.MaxInt, nil},
			{1, 0, []api.Write{{ID: 0}}}, {1, 0, []api.Write{{ID: 2}}}, {1, 0, []api.Write{{ID: -1}}},
			{0, 0, []api.Write{{ID: 1}}}, {5, 0, []api.Write{cutEdge(1)}}, {0, 3, []api.Write{cut(1)}},
			{5, 3, []api.Write{cutEdge(4)}}, {5, 3, []api.Write{cutEdge(0)}},
			{5, 3, []api.Write{put(1, labels("A"))}}, {5, 3, []api.Write{put(1, valued("k", api.Val{}))}},
			{5, 3, []api.Write{putEdge(1, api.Edge{})}}, {5, 3, []api.Write{putEdge(1, edge(1, 25))}},
			{5, 3, []api.Write{putEdge(1, api.Edge{From: 1, To: 2, Type: "t", W: -1})}},
			{5, 3, []api.Write{{ID: 1, Gone: true, N: labels("a")}}}, {5, 3, []api.Write{{ID: 1, E: edge(1, 2)}}},
			{5, 3, []api.Write{{ID: 1, Edge: true, Gone: true, E: edge(1, 2)}}},
			{5, 3, []api.Write{{ID: 1, Edge: true, N: labels("a"), E: edge(1, 2)}}},
			{5, 3, []api.Write{put(4, labels("a")), put(4, labels("a"))}}, {5, 3, []api.Write{cut(4), put(4, labels("a"))}},
			{5, 3, []api.Write{cutEdge(1), cutEdge(1)}},
		} {
			if _, err := record.Encode(x.nodes, x.edges, x.l); err == api.OK {
				t.Fatalf("Encode takes %v", x)
			}
			w.same(w.load(x.nodes, x.edges, x.l), api.ErrArg)
		}
		// Nothing was done, and no number of a transaction was taken.
		a := w.begin()
		w.same(w.load(-1, 0, nil), api.ErrArg)
		w.did(w.commit(a))
	}
}

func TestLoadWithALiveTransaction(t *testing.T) {
	w := base(t)
	a := w.begin()
	w.same(w.load(5, 3, nil), api.ErrState)
	w.same(w.load(9, 9, []api.Write{put(9, labels("a"))}), api.ErrState)
	// It is named ahead of the errors that depend on the elements that are there, and after Encode's.
	w.same(w.load(5, 3, []api.Write{putEdge(1, edge(2, 1))}), api.ErrState)
	w.same(w.load(5, 3, []api.Write{cut(1)}), api.ErrState)
	w.same(w.load(99, 3, []api.Write{cut(1)}), api.ErrArg)
	w.did(w.commit(a))
	w.same(w.load(5, 3, []api.Write{putEdge(1, edge(2, 1))}), api.ErrArg)
	w.same(w.load(5, 3, []api.Write{cut(1)}), api.ErrArg)
	b := w.begin()
	w.did(w.abort(b), w.load(9, 9, []api.Write{put(9, labels("a"))}))
	if c := w.begin(); c != b+2 {
		t.Errorf("got %d, want %d: what is refused takes no number", c, b+2)
	}
}

func TestLoadOfAnEdgeBetweenOtherNodes(t *testing.T) {
	for _, e := range []api.Edge{edge(2, 1), edge(1, 1), edge(2, 2), edge(1, 4), edge(4, 2), edge(5, 4)} {
		w := base(t)
		w.same(w.load(5, 3, []api.Write{putEdge(1, e)}), api.ErrArg)
		w.same(w.load(5, 3, []api.Write{put(4, labels("z")), cutEdge(2), putEdge(1, e)}), api.ErrArg)
		// Of the removed edge there is still a version that is not gone.
		w.did(w.load(5, 3, []api.Write{cutEdge(1)}))
		w.same(w.load(5, 3, []api.Write{putEdge(1, e)}), api.ErrArg)
		w.drain()
		w.did(w.load(5, 3, []api.Write{putEdge(1, e)}))
		w.same(w.load(5, 3, []api.Write{putEdge(1, edge(1, 2))}), api.ErrArg)
		a := w.begin()
		w.did(w.dropEdge(a, 1), w.commit(a))
		w.same(w.load(5, 3, []api.Write{putEdge(1, edge(1, 2))}), api.ErrArg)
		w.did(w.load(5, 3, []api.Write{putEdge(1, e)}))
	}
	// The same nodes, and all else another one.
	w := base(t)
	w.did(w.load(5, 3, []api.Write{putEdge(1, api.Edge{From: 1, To: 2, Type: "longtype", W: posInf})}))
	a := w.begin()
	w.tells(w.s.Out(a, 1), 1, 3)
}

func TestVacuumAndTheNodesOfAnEdge(t *testing.T) {
	// Three versions of edge 1: there, gone, there. Vacuum takes one after the other.
	w := newWorld(t)
	w.did(w.load(3, 1, []api.Write{put(1, api.Node{}), put(2, api.Node{}), putEdge(1, edge(1, 2))}))
	w.did(w.load(3, 1, []api.Write{cutEdge(1)}))
	w.same(w.load(3, 1, []api.Write{putEdge(1, edge(2, 1))}), api.ErrArg)
	if !w.vacuum() {
		t.Error("Vacuum: got false")
	}
	w.did(w.load(3, 1, []api.Write{putEdge(1, edge(2, 1))}))
	w.same(w.load(3, 1, []api.Write{putEdge(1, edge(1, 2))}), api.ErrArg)
	w.drain()
	w.same(w.load(3, 1, []api.Write{putEdge(1, edge(1, 2))}), api.ErrArg)
	a := w.begin()
	w.tells(w.s.Out(a, 2), 1)
	w.tells(w.s.Out(a, 1))
	// Two nodes, an edge and its two entries.
	if w.s.Slots() != 5 {
		t.Errorf("Slots: got %d", w.s.Slots())
	}
}

func TestLoadOfAnEdgeWhoseVersionsWereUndone(t *testing.T) {
	w := base(t)
	a := w.begin()
	w.ties(a, edge(4, 5))
	w.did(w.abort(a))
	w.did(w.load(5, 4, []api.Write{putEdge(4, edge(5, 4))}))
	b := w.begin()
	w.tells(w.s.Out(b, 5), 4)
	w.tells(w.s.Out(b, 4))
}

func TestLoadAndTheNodesOfEdges(t *testing.T) {
	for _, x := range []struct {
		name string
		l    []api.Write
		want api.Errno
	}{
		{"nodes that stand there", []api.Write{putEdge(4, edge(4, 5))}, api.OK},
		{"nodes that come with it, ahead", []api.Write{put(6, api.Node{}), put(7, api.Node{}), putEdge(4, edge(6, 7))}, api.OK},
		{"nodes that come with it, behind", []api.Write{putEdge(4, edge(6, 7)), put(7, api.Node{}), put(6, api.Node{})}, api.OK},
		{"one that stands there and one that comes", []api.Write{putEdge(4, edge(5, 6)), put(6, api.Node{})}, api.OK},
		{"From is missing", []api.Write{putEdge(4, edge(6, 5))}, api.ErrArg},
		{"To is missing", []api.Write{putEdge(4, edge(5, 6))}, api.ErrArg},
		{"both are missing", []api.Write{putEdge(4, edge(7, 6))}, api.ErrArg},
		{"an ID beyond the numbers", []api.Write{putEdge(4, edge(5, api.MaxNodes))}, api.ErrArg},
		{"another comes", []api.Write{putEdge(4, edge(5, 6)), put(7, api.Node{})}, api.ErrArg},
		{"From is dropped by it", []api.Write{putEdge(4, edge(4, 5)), cut(4)}, api.ErrArg},
		{"To is dropped by it, ahead", []api.Write{cut(5), putEdge(4, edge(4, 5))}, api.ErrArg},
		{"To is dropped and never was", []api.Write{cut(6), putEdge(4, edge(4, 6))}, api.ErrArg},
		{"an edge to itself", []api.Write{putEdge(4, edge(6, 6)), put(6, api.Node{})}, api.OK},
		{"an edge to itself, missing", []api.Write{putEdge(4, edge(6, 6))}, api.ErrArg},
		{"the From of one that is there", []api.Write{cut(1)}, api.ErrArg},
		{"the To of one that is there", []api.Write{cut(2)}, api.ErrArg},
		{"both nodes of one that is there", []api.Write{cut(3)}, api.ErrArg},
		{"one of two edges is dropped with it", []api.Write{cut(1), cutEdge(1)}, api.ErrArg},
		{"both are dropped with it", []api.Write{cut(1), cutEdge(1), cutEdge(3)}, api.OK},
		{"both are dropped with both nodes", []api.Write{cutEdge(3), cut(2), cut(1), cutEdge(1)}, api.OK},
		{"an edge is written and its node dropped", []api.Write{cut(3), putEdge(2, edge(3, 3))}, api.ErrArg},
		{"a node without edges", []api.Write{cut(5)}, api.OK},
		{"an edge that never was is dropped", []api.Write{cutEdge(4), cut(5)}, api.OK},
	} {
		for _, drains := range []bool{false, true} {
			w := base(t)
			if drains {
				w.drain()
			}
			if got := w.load(7, 4, x.l); got != x.want {
				t.Errorf("%s: got %d, want %d", x.name, got, x.want)
			}
			a := w.begin()
			if want := map[api.Errno]int{api.OK: 3, api.ErrArg: 2}[x.want]; w.s.Live() != 1 || a != want {
				t.Errorf("%s: got transaction %d, want %d", x.name, a, want)
			}
			w.did(w.commit(a))
			w.drain()
		}
	}
}

func TestLoadAndTheNumbersOfIDs(t *testing.T) {
	for _, x := range []struct{ nodes, edges, nextNode, nextEdge int }{
		{0, 0, 6, 4}, {4, 2, 6, 4}, {5, 3, 6, 4}, {6, 3, 7, 4}, {5, 4, 6, 5}, {0, 9, 6, 10}, {9, 0, 10, 4},
		{api.MaxNodes - 1, api.MaxEdges - 1, api.MaxNodes, api.MaxEdges},
	} {
		w := base(t)
		w.did(w.load(x.nodes, x.edges, nil))
		w.images(x.nextNode-1, x.nextEdge-1, w.now.all()...)
		a := w.begin()
		w.pends(a, x.nextNode-1, x.nextEdge-1)
		if got := w.adds(a, api.Node{}); got != x.nextNode {
			t.Errorf("%v: got node %d", x, got)
		}
		if got := w.ties(a, edge(1, 2)); got != x.nextEdge {
			t.Errorf("%v: got edge %d", x, got)
		}
		w.same(w.setNode(a, x.nextNode+1, api.Node{}), api.ErrNone)
		w.did(w.commit(a))
		w.drain()
	}
	w := full(t)
	w.did(w.load(1, 1, nil), w.load(api.MaxNodes, api.MaxEdges, []api.Write{put(api.MaxNodes, labels("a")), putEdge(api.MaxEdges, edge(api.MaxNodes, 1))}))
	a := w.begin()
	_, err := w.addNode(a, api.Node{})
	w.same(err, api.ErrFull)
	_, err = w.addEdge(a, edge(1, api.MaxNodes))
	w.same(err, api.ErrFull)
	w.tells(w.s.Label(a, "a"), api.MaxNodes)
}

func TestLoadOfIDsThatAreNotThere(t *testing.T) {
	// IDs that count as assigned without elements.
	w := newWorld(t)
	w.did(w.load(3, 2, nil))
	a := w.begin()
	w.tells(w.s.Nodes(a))
	for id := range 5 {
		w.same(w.setNode(a, id, api.Node{}), api.ErrNone)
		w.same(w.dropNode(a, id), api.ErrNone)
		w.same(w.dropEdge(a, id), api.ErrNone)
	}
	_, err := w.addEdge(a, edge(1, 2))
	w.same(err, api.ErrNone)
	if w.s.Slots() != 0 || w.adds(a, api.Node{}) != 4 || w.ties(a, edge(4, 4)) != 3 {
		t.Error("the IDs are not assigned as they should be")
	}
	w.did(w.commit(a))
	// Elements that never were, gone.
	w.did(w.load(4, 3, []api.Write{cut(1), cutEdge(1), cut(2), cutEdge(2)}))
	if w.s.Slots() != 1+1+2+4 || w.drain() != 4 || w.s.Slots() != 4 {
		t.Errorf("Slots: got %d", w.s.Slots())
	}
}

// clone returns a world with a new Store into which the Image of w was loaded.
func (w *world) clone() *world {
	v := newWorld(w.t)
	v.quick = w.quick
	nodes, edges, l := w.s.Image()
	v.did(v.load(nodes, edges, l))
	return v
}

func TestLoadOfAnImage(t *testing.T) {
	w := base(t)
	a := w.begin()
	w.adds(a, valued("k", number(nan)))
	w.did(w.dropEdge(a, 2), w.dropNode(a, 3), w.commit(a))
	b := w.begin()
	w.adds(b, labels("lost"))
	w.ties(b, edge(6, 7))
	v := w.clone()
	v.images(7, 4, w.now.all()...)
	c := v.begin()
	w.did(w.abort(b))
	d := w.begin()
	w.tells(w.s.Nodes(d), v.s.Nodes(c)...)
	w.tells(w.s.Edges(d), v.s.Edges(c)...)
	w.tells(w.s.Out(d, 1), v.s.Out(c, 1)...)
	w.tells(w.s.Label(d, "a"), v.s.Label(c, "a")...)
	if v.adds(c, api.Node{}) != 8 || v.ties(c, edge(8, 6)) != 5 {
		t.Error("IDs are used again")
	}
	v.did(v.commit(c))
	// An Image loaded into the Store that it was taken of changes nothing.
	w.did(w.abort(d))
	nodes, edges, l := w.s.Image()
	before := slices.Clone(l)
	w.did(w.load(nodes, edges, l))
	w.images(nodes, edges, before...)
	w.drain()
	if v.drain(); w.s.Slots() != w.clone().s.Slots() {
		t.Errorf("Slots: got %d", w.s.Slots())
	}
}

func TestLoadOfWhatIsPending(t *testing.T) {
	for _, drains := range []bool{false, true} {
		w, v := newWorld(t), newWorld(t)
		// The second Store is told of each commit by what was pending.
		tell := func(do func(a int)) {
			lost, a := w.begin(), w.begin()
			w.adds(lost, labels("lost"))
			do(a)
			nodes, edges, l, _ := w.s.Pending(a)
			w.did(w.commit(a), w.abort(lost), v.load(nodes, edges, l))
			v.images(w.nodes, w.edges, w.now.all()...)
			if drains {
				w.drain()
				v.drain()
			}
		}
		var one, two, three int
		tell(func(a int) {
			one, two = w.adds(a, labels("a")), w.adds(a, labels("b"))
			w.ties(a, edge(one, two), edge(two, two))
		})
		tell(func(a int) { w.did(w.setNode(a, one, valued("k", number(negZero)))) })
		tell(func(a int) {})
		tell(func(a int) {
			three = w.adds(a, labels("c"))
			w.ties(a, edge(three, one))
			w.did(w.dropEdge(a, 1))
		})
		tell(func(a int) {
			four := w.adds(a, labels("d"))
			id := w.ties(a, edge(four, one))
			w.did(w.dropEdge(a, id), w.dropNode(a, four))
		})
		tell(func(a int) { w.did(w.dropEdge(a, 2), w.dropNode(a, two)) })
		tell(func(a int) { w.did(w.setNode(a, three, labels("e"))) })
		w.drain()
		v.drain()
		if got, want := v.s.Slots(), w.s.Slots(); got != want {
			t.Errorf("Slots: got %d, want %d", got, want)
		}
	}
}

func TestLoadReadsNothingLater(t *testing.T) {
	// The arguments of load are written all over once Load has returned: so all of it was copied.
	w := newWorld(t)
	w.did(w.load(2, 1, []api.Write{put(1, with(labels("a"), "k", text("p"))), put(2, labels("b")), putEdge(1, edge(1, 2))}))
	a := w.begin()
	w.tells(w.s.Label(a, "a"), 1)
	w.tells(w.s.Label(a, "junk"))
	w.tells(w.s.Range(a, "k", text("p"), text("p")), 1)
}

func TestLoadIntoAZeroStore(t *testing.T) {
	var s store.Store
	if err := s.Load(0, -1, nil); err != api.ErrArg {
		t.Errorf("got %d", err)
	}
	if err := s.Load(2, 1, []api.Write{putEdge(1, edge(1, 2))}); err != api.ErrArg {
		t.Errorf("got %d", err)
	}
	if err := s.Load(2, 1, []api.Write{put(1, labels("a")), putEdge(1, edge(1, 1))}); err != api.OK {
		t.Errorf("got %d", err)
	}
	if nodes, edges, l := s.Image(); nodes != 2 || edges != 1 || len(l) != 2 || s.Slots() != 5 {
		t.Errorf("got %d, %d, %v", nodes, edges, l)
	}
}
