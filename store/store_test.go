package store_test

import (
	"maps"
	"math"
	"slices"
	"testing"

	"ligature/api"
	"ligature/record"
	"ligature/store"
)

// invalid returns nodes that are not valid.
func invalid() []api.Node {
	return []api.Node{
		labels("A"), labels(""), labels("ninebytes"), labels("b", "a"), labels("a", "a"),
		labels("a", "b", "c", "d"), valued("", whole(1)), valued("K", whole(1)), valued("k", api.Val{}),
		valued("k", api.Val{Kind: api.Int, T: "x"}), valued("k", text("thirteenbytes")),
		with(valued("k", whole(1)), "k", whole(2)), with(valued("l", whole(1)), "k", whole(2)),
		with(with(with(valued("a", whole(1)), "b", whole(1)), "c", whole(1)), "d", whole(1)),
		valued("k", number(math.Float64frombits(0x7ff8000000000001))),
	}
}

// wrong returns edges that are not valid.
func wrong() []api.Edge {
	return []api.Edge{
		{}, edge(0, 1), edge(1, 0), edge(-1, 1), edge(1, -1), edge(api.MaxNodes+1, 1),
		edge(1, api.MaxNodes+1), edge(math.MinInt, 1), edge(1, math.MaxInt), {From: 1, To: 1, W: 1},
		{From: 1, To: 1, Type: "T", W: 1}, {From: 1, To: 1, Type: "ninebytes", W: 1},
		{From: 1, To: 1, Type: "t", W: -1}, {From: 1, To: 1, Type: "t", W: nan},
		{From: 1, To: 1, Type: "t", W: negInf},
	}
}

// adds has t add nodes, and returns the ID of the last one.
func (w *world) adds(t int, l ...api.Node) int {
	w.t.Helper()
	last := 0
	for _, n := range l {
		id, err := w.addNode(t, n)
		w.same(err, api.OK)
		last = id
	}
	return last
}

// ties has t add edges, and returns the ID of the last one.
func (w *world) ties(t int, l ...api.Edge) int {
	w.t.Helper()
	last := 0
	for _, e := range l {
		id, err := w.addEdge(t, e)
		w.same(err, api.OK)
		last = id
	}
	return last
}

// did asks for OK.
func (w *world) did(l ...api.Errno) {
	w.t.Helper()
	for _, err := range l {
		w.same(err, api.OK)
	}
}

// tells asks one result for exactly these IDs, as a test itself writes them out.
func (w *world) tells(got []int, want ...int) {
	w.t.Helper()
	if !slices.Equal(got, want) {
		w.fail("got %v, want %v", got, want)
	}
}

// base returns a world with five nodes, with the edges 1 and 3 from node 1 to node 2, and with edge 2
// from node 3 to itself.
func base(t *testing.T) *world {
	t.Helper()
	w := newWorld(t)
	w.quick = true
	a := w.begin()
	w.adds(a, with(labels("a"), "k", whole(1)), labels("a", "b"), valued("k", whole(2)), labels("c"), api.Node{})
	w.ties(a, edge(1, 2), edge(3, 3), edge(1, 2))
	w.did(w.commit(a))
	return w
}

// full returns a world in which all IDs have been assigned, with two nodes and an edge.
func full(t *testing.T) *world {
	t.Helper()
	w := newWorld(t)
	w.quick = true
	w.did(w.load(api.MaxNodes, api.MaxEdges, []api.Write{{ID: 1}, {ID: 2}, {Edge: true, ID: 1, E: edge(1, 2)}}))
	return w
}

// P11.1

func TestNewIsEmpty(t *testing.T) {
	if store.New() == nil || store.New() == store.New() {
		t.Fatal("New returns no new Store")
	}
	w := newWorld(t)
	w.look()
	if w.vacuum() || w.s.Slots() != 0 || w.s.Live() != 0 {
		t.Error("it is not empty")
	}
	if nodes, edges, l := w.s.Image(); nodes != 0 || edges != 0 || len(l) != 0 {
		t.Errorf("Image: got %d, %d, %v", nodes, edges, l)
	}
	a := w.begin()
	if nodes, edges, l, err := w.s.Pending(a); nodes != 0 || edges != 0 || len(l) != 0 || err != api.OK {
		t.Errorf("Pending: got %d, %d, %v, %d", nodes, edges, l, err)
	}
	w.tells(w.s.Nodes(a))
	w.tells(w.s.Edges(a))
}

func TestStoresAreApart(t *testing.T) {
	w, v := newWorld(t), newWorld(t)
	a, b := w.begin(), v.begin()
	w.adds(a, labels("a"))
	v.look()
	v.adds(b, labels("b"), labels("c"))
	w.look()
	w.did(w.commit(a))
	v.did(v.abort(b))
	w.look()
	v.look()
}

func TestTransactionsAreNumberedInOrder(t *testing.T) {
	w := newWorld(t)
	for i := 1; i <= 5*api.MaxLive; i++ {
		n := w.begin()
		if n != i {
			t.Errorf("got %d, want %d", n, i)
		}
		switch i % 3 {
		case 0:
			w.did(w.commit(n))
		case 1:
			w.did(w.abort(n))
		}
		if len(w.live) == api.MaxLive {
			w.did(w.commit(slices.Min(slices.Collect(maps.Keys(w.live)))))
		}
	}
}

func TestAtMostMaxLive(t *testing.T) {
	w := newWorld(t)
	for range api.MaxLive {
		w.begin()
	}
	for range 3 {
		if n, err := w.tryBegin(); n != 0 || err != api.ErrFull {
			t.Errorf("got %d, %d", n, err)
		}
	}
	if w.s.Live() != api.MaxLive {
		t.Errorf("Live: got %d", w.s.Live())
	}
	w.did(w.commit(2))
	if n := w.begin(); n != api.MaxLive+1 {
		t.Errorf("got %d: what Begin refuses takes no number", n)
	}
	w.same(w.commit(2), api.ErrState)
	w.did(w.abort(3))
	w.begin()
	if _, err := w.tryBegin(); err != api.ErrFull {
		t.Errorf("got %d", err)
	}
	// A clash makes room as well.
	w.adds(1, api.Node{})
	w.did(w.commit(1))
	a, _ := w.tryBegin()
	w.did(w.abort(4))
	b := w.begin()
	w.did(w.setNode(a, 1, labels("a")))
	w.same(w.setNode(b, 1, labels("b")), api.ErrClash)
	w.begin()
	if _, err := w.tryBegin(); err != api.ErrFull {
		t.Errorf("got %d", err)
	}
}

func TestImageWithAllTransactionsLive(t *testing.T) {
	w := newWorld(t)
	w.quick = true
	for range api.MaxLive {
		a := w.begin()
		w.adds(a, labels("a"))
		w.did(w.commit(a))
	}
	for range api.MaxLive {
		w.begin()
	}
	a := slices.Sorted(maps.Keys(w.live))
	w.did(w.setNode(a[0], 1, labels("b")), w.dropNode(a[1], 2), w.dropNode(a[2], 3))
	w.did(w.commit(a[0]), w.commit(a[1]))
	c, d := w.begin(), w.begin()
	// Those that are live began at different times, and one of them has removed node 3.
	w.did(w.setNode(c, 1, labels("c")), w.commit(c))
	e := w.begin()
	w.did(w.setNode(e, 4, labels("b")))
	_, _, l := w.s.Image()
	want := []api.Write{{ID: 1, N: labels("c")}, {ID: 3, N: labels("a")}, {ID: 4, N: labels("a")}}
	if !slices.EqualFunc(l, want, sameWrite) {
		t.Errorf("got %v, want %v", l, want)
	}
	// Image takes no number of a transaction.
	w.did(w.abort(d))
	for range 5 {
		w.s.Image()
	}
	if n := w.begin(); n != e+1 {
		t.Errorf("got %d, want %d", n, e+1)
	}
}

func TestOrdinaryUse(t *testing.T) {
	w := newWorld(t)
	a := w.begin()
	w.adds(a, with(labels("a"), "k", whole(2)), with(labels("a", "b"), "k", whole(1)), labels("b"))
	w.ties(a, edge(1, 2), edge(2, 3), edge(2, 1))
	w.tells(w.s.Nodes(a), 1, 2, 3)
	w.tells(w.s.Edges(a), 1, 2, 3)
	w.tells(w.s.Out(a, 2), 2, 3)
	w.tells(w.s.In(a, 2), 1)
	w.tells(w.s.Label(a, "a"), 1, 2)
	w.tells(w.s.Label(a, "b"), 2, 3)
	w.tells(w.s.Range(a, "k", whole(1), whole(2)), 2, 1)
	b := w.begin()
	w.tells(w.s.Nodes(b))
	w.did(w.commit(a))
	w.tells(w.s.Nodes(b))
	w.tells(w.s.Label(b, "a"))
	w.tells(w.s.Out(b, 2))
	c := w.begin()
	w.tells(w.s.Nodes(c), 1, 2, 3)
	w.did(w.setNode(c, 1, valued("k", whole(0))), w.dropEdge(c, 2), w.dropNode(c, 3))
	w.tells(w.s.Nodes(c), 1, 2)
	w.tells(w.s.Edges(c), 1, 3)
	w.tells(w.s.Label(c, "a"), 2)
	w.tells(w.s.Range(c, "k", whole(0), whole(2)), 1, 2)
	d := w.begin()
	w.tells(w.s.Nodes(d), 1, 2, 3)
	w.tells(w.s.Range(d, "k", whole(0), whole(2)), 2, 1)
	if id := w.adds(d, labels("c")); id != 4 {
		t.Errorf("got ID %d", id)
	}
	w.did(w.commit(c))
	w.tells(w.s.Nodes(d), 1, 2, 3, 4)
	w.did(w.commit(d))
	e := w.begin()
	w.tells(w.s.Nodes(e), 1, 2, 4)
	w.tells(w.s.Edges(e), 1, 3)
	w.tells(w.s.Label(e, "c"), 4)
	w.tells(w.s.Nodes(b))
}

// calls returns each function that writes and has an argument t, with arguments of every kind.
func calls(w *world) map[string]func(t int) api.Errno {
	return map[string]func(t int) api.Errno{
		"Commit":            w.commit,
		"Abort":             w.abort,
		"AddNode":           func(t int) api.Errno { _, err := w.addNode(t, labels("a")); return err },
		"AddNode, invalid":  func(t int) api.Errno { _, err := w.addNode(t, labels("A")); return err },
		"SetNode":           func(t int) api.Errno { return w.setNode(t, 1, labels("a")) },
		"SetNode, invalid":  func(t int) api.Errno { return w.setNode(t, 1, labels("A")) },
		"SetNode of none":   func(t int) api.Errno { return w.setNode(t, 99, labels("a")) },
		"DropNode":          func(t int) api.Errno { return w.dropNode(t, 5) },
		"DropNode of none":  func(t int) api.Errno { return w.dropNode(t, 99) },
		"DropNode, edges":   func(t int) api.Errno { return w.dropNode(t, 1) },
		"AddEdge":           func(t int) api.Errno { _, err := w.addEdge(t, edge(1, 2)); return err },
		"AddEdge, invalid":  func(t int) api.Errno { _, err := w.addEdge(t, api.Edge{}); return err },
		"AddEdge, no node":  func(t int) api.Errno { _, err := w.addEdge(t, edge(1, 20)); return err },
		"DropEdge":          func(t int) api.Errno { return w.dropEdge(t, 1) },
		"DropEdge, no edge": func(t int) api.Errno { return w.dropEdge(t, 99) },
	}
}

func TestTransactionsThatAreNotLive(t *testing.T) {
	w := base(t)
	committed, aborted, writer, clashed := w.begin(), w.begin(), w.begin(), w.begin()
	w.did(w.setNode(committed, 1, labels("b")), w.setNode(aborted, 2, labels("c")), w.setNode(writer, 4, labels("c")))
	w.did(w.dropNode(clashed, 5))
	w.did(w.commit(committed), w.abort(aborted))
	w.same(w.setNode(clashed, 4, api.Node{}), api.ErrClash)
	for _, n := range []int{1, committed, aborted, clashed, writer + 2, 99, 0, -1, -writer, math.MinInt, math.MaxInt} {
		for name, call := range calls(w) {
			if err := call(n); err != api.ErrState {
				t.Errorf("%s(%d): got %d", name, n, err)
			}
			w.lookDead(n)
		}
	}
	if w.s.Live() != 1 {
		t.Errorf("Live: got %d", w.s.Live())
	}
}

func TestTransactionsThatAreNotLiveInAFullStore(t *testing.T) {
	w := full(t)
	for name, call := range calls(w) {
		if err := call(1); err != api.ErrState {
			t.Errorf("%s: got %d", name, err)
		}
	}
}

// act is a call of t that is to return an error.
type act struct {
	name string
	call func(w *world, t int) api.Errno
	want api.Errno
}

func addNode(n api.Node) func(w *world, t int) api.Errno {
	return func(w *world, t int) api.Errno { _, err := w.addNode(t, n); return err }
}

func setNode(id int, n api.Node) func(w *world, t int) api.Errno {
	return func(w *world, t int) api.Errno { return w.setNode(t, id, n) }
}

func dropNode(id int) func(w *world, t int) api.Errno {
	return func(w *world, t int) api.Errno { return w.dropNode(t, id) }
}

func addEdge(e api.Edge) func(w *world, t int) api.Errno {
	return func(w *world, t int) api.Errno { _, err := w.addEdge(t, e); return err }
}

func dropEdge(id int) func(w *world, t int) api.Errno {
	return func(w *world, t int) api.Errno { return w.dropEdge(t, id) }
}

// wantActs makes each call with a transaction of its own in a world of its own, and asks whether the
// transaction is aborted by it, with what it had written.
func wantActs(t *testing.T, begun func(t *testing.T) *world, prepare func(w *world, b int), l []act) {
	t.Helper()
	for _, x := range l {
		w := begun(t)
		a := w.begin()
		b := w.begin()
		prepare(w, b)
		if got := x.call(w, a); got != x.want {
			t.Errorf("%s: got %d, want %d", x.name, got, x.want)
		}
		_, _, _, err := w.s.Pending(a)
		if aborted := err != api.OK; aborted != (x.want == api.ErrClash) {
			t.Errorf("%s: aborted is %t", x.name, aborted)
		}
		if got := w.s.Live(); got != len(w.live) {
			t.Errorf("%s: Live: got %d, want %d", x.name, got, len(w.live))
		}
		w.drain()
	}
}

func nothing(*world, int) {}

func TestErrorsAlone(t *testing.T) {
	wantActs(t, base, nothing, []act{
		{"AddNode, invalid", addNode(labels("A")), api.ErrArg},
		{"SetNode, invalid", setNode(1, labels("A")), api.ErrArg},
		{"SetNode, not assigned", setNode(6, labels("a")), api.ErrNone},
		{"DropNode, not assigned", dropNode(6), api.ErrNone},
		{"DropNode, outgoing and incoming", dropNode(3), api.ErrEdges},
		{"DropNode, outgoing", dropNode(1), api.ErrEdges},
		{"DropNode, incoming", dropNode(2), api.ErrEdges},
		{"AddEdge, invalid", addEdge(api.Edge{From: 1, To: 2, W: 1}), api.ErrArg},
		{"AddEdge, no From", addEdge(edge(6, 1)), api.ErrNone},
		{"AddEdge, no To", addEdge(edge(1, 6)), api.ErrNone},
		{"AddEdge, neither", addEdge(edge(6, 6)), api.ErrNone},
		{"DropEdge, not assigned", dropEdge(4), api.ErrNone},
	})
	wantActs(t, full, nothing, []act{
		{"AddNode, full", addNode(labels("a")), api.ErrFull},
		{"AddEdge, full", addEdge(edge(1, 2)), api.ErrFull},
		{"AddEdge to itself, full", addEdge(edge(1, 1)), api.ErrFull},
	})
	wantActs(t, base, func(w *world, b int) {
		w.did(w.setNode(b, 1, labels("b")), w.setNode(b, 4, labels("b")), w.commit(b))
	}, []act{
		{"SetNode, clash", setNode(1, labels("a")), api.ErrClash},
		{"DropNode, clash", dropNode(4), api.ErrClash},
		{"AddEdge, clash at From", addEdge(edge(1, 2)), api.ErrClash},
		{"AddEdge, clash at To", addEdge(edge(2, 1)), api.ErrClash},
		{"AddEdge, clash at both", addEdge(edge(1, 4)), api.ErrClash},
		{"AddEdge to itself, clash", addEdge(edge(4, 4)), api.ErrClash},
		{"DropEdge, clash at From", dropEdge(1), api.ErrClash},
		{"SetNode of another", setNode(2, labels("a")), api.OK},
		{"DropNode of another", dropNode(5), api.OK},
		{"AddEdge of others", addEdge(edge(2, 3)), api.OK},
		{"DropEdge of others", dropEdge(2), api.OK},
	})
	wantActs(t, base, func(w *world, b int) { w.did(w.setNode(b, 2, labels("b"))) }, []act{
		{"DropEdge, clash at To", dropEdge(1), api.ErrClash},
	})
}

func TestErrorsInTheirOrder(t *testing.T) {
	wantActs(t, full, nothing, []act{
		{"AddNode: invalid, full", addNode(labels("A")), api.ErrArg},
		{"AddEdge: invalid, full", addEdge(api.Edge{From: 1, To: 2}), api.ErrArg},
		{"AddEdge: no From, full", addEdge(edge(3, 1)), api.ErrNone},
		{"AddEdge: no To, full", addEdge(edge(1, 3)), api.ErrNone},
		{"AddEdge: invalid, no node", addEdge(edge(0, 3)), api.ErrArg},
	})
	wantActs(t, full, func(w *world, b int) { w.did(w.setNode(b, 1, labels("b"))) }, []act{
		{"AddEdge: full, clash", addEdge(edge(1, 2)), api.ErrFull},
		{"AddNode, full", addNode(labels("a")), api.ErrFull},
	})
	wantActs(t, base, nothing, []act{
		{"SetNode: invalid, none", setNode(9, labels("A")), api.ErrArg},
		{"AddEdge: invalid, none", addEdge(api.Edge{From: 9, To: 9, Type: "T"}), api.ErrArg},
	})
	wantActs(t, base, func(w *world, b int) {
		w.did(w.setNode(b, 1, labels("b")), w.setNode(b, 3, labels("b")))
		w.adds(b, labels("b"))
		w.ties(b, edge(6, 6), edge(4, 4))
	}, []act{
		{"SetNode: invalid, clash", setNode(1, labels("A")), api.ErrArg},
		{"SetNode: none, clash", setNode(6, labels("a")), api.ErrNone},
		{"DropNode: none, clash", dropNode(6), api.ErrNone},
		{"DropNode: edges, clash", dropNode(1), api.ErrEdges},
		{"DropNode: an edge to itself, clash", dropNode(3), api.ErrEdges},
		{"DropNode: the edge of another, clash", dropNode(4), api.ErrClash},
		{"AddEdge: invalid, clash", addEdge(api.Edge{From: 1, To: 2}), api.ErrArg},
		{"AddEdge: no To, clash", addEdge(edge(1, 9)), api.ErrNone},
		{"AddEdge: no From, clash", addEdge(edge(6, 1)), api.ErrNone},
		{"AddEdge: no node, clash there", addEdge(edge(6, 6)), api.ErrNone},
		{"DropEdge: none, clash", dropEdge(4), api.ErrNone},
		{"DropEdge: none, clash at its nodes", dropEdge(5), api.ErrNone},
	})
	// An edge that t has dropped itself, at nodes that it has touched, does not clash.
	w := base(t)
	a := w.begin()
	w.did(w.dropEdge(a, 1))
	w.same(w.dropEdge(a, 1), api.ErrNone)
	w.did(w.commit(a))
}

func TestInvalidNodesAndEdges(t *testing.T) {
	w := base(t)
	a := w.begin()
	for _, n := range invalid() {
		if record.IsNode(n) {
			t.Fatalf("%v is valid", n)
		}
		for _, id := range []int{1, 4, 0, 9} {
			w.same(w.setNode(a, id, n), api.ErrArg)
		}
		_, err := w.addNode(a, n)
		w.same(err, api.ErrArg)
	}
	for _, e := range wrong() {
		if record.IsEdge(e) {
			t.Fatalf("%v is valid", e)
		}
		_, err := w.addEdge(a, e)
		w.same(err, api.ErrArg)
	}
	if _, _, l, err := w.s.Pending(a); len(l) != 0 || err != api.OK {
		t.Errorf("Pending: got %v, %d", l, err)
	}
	// The IDs were not assigned.
	if w.adds(a, api.Node{}) != 6 || w.ties(a, edge(1, 1)) != 4 {
		t.Error("an ID was lost")
	}
}

func TestNodesAtTheLimitsOfValidity(t *testing.T) {
	w := newWorld(t)
	a := w.begin()
	w.adds(a, api.Node{}, labels("abcdefgh"), labels("a", "ab", "abcdefgh"), valued("longname", text("twelve bytes")),
		with(with(valued("a", truth(false)), "k", number(nan)), "longname", whole(math.MinInt)),
		api.Node{Labels: []string{}, Props: []api.Prop{}})
	for _, f := range []float64{negZero, 0, math.SmallestNonzeroFloat64, math.MaxFloat64, posInf} {
		w.ties(a, api.Edge{From: 1, To: 2, Type: "longtype", W: f})
	}
	w.did(w.commit(a))
	b := w.begin()
	if e, _ := w.s.Edge(b, 1); !math.Signbit(e.W) || e.W != 0 {
		t.Errorf("-0 is read as %v", e.W)
	}
}

func TestElementsThatAreNotThere(t *testing.T) {
	w := base(t)
	a := w.begin()
	w.did(w.dropNode(a, 4), w.dropEdge(a, 2))
	for _, id := range []int{math.MinInt, -5, -1, 0, 4, 6, 7, 99, math.MaxInt} {
		w.same(w.setNode(a, id, labels("a")), api.ErrNone)
		w.same(w.dropNode(a, id), api.ErrNone)
	}
	for _, id := range []int{math.MinInt, -3, -1, 0, 2, 4, 5, 99, math.MaxInt} {
		w.same(w.dropEdge(a, id), api.ErrNone)
	}
	for _, e := range []api.Edge{edge(4, 1), edge(1, 4), edge(4, 4), edge(6, 1), edge(1, 6), edge(api.MaxNodes, 1), edge(1, api.MaxNodes)} {
		_, err := w.addEdge(a, e)
		w.same(err, api.ErrNone)
	}
	// The first and the last assigned ones.
	w.did(w.setNode(a, 1, labels("b")), w.dropNode(a, 5), w.dropEdge(a, 3), w.dropEdge(a, 1), w.dropNode(a, 1))
	w.same(w.setNode(a, 5, labels("b")), api.ErrNone)
}

func TestOnlyAClashAborts(t *testing.T) {
	w := base(t)
	a, b := w.begin(), w.begin()
	w.did(w.setNode(a, 5, labels("b")))
	w.adds(a, labels("c"))
	mine := w.pending(a)
	for _, err := range []api.Errno{w.setNode(a, 1, labels("A")), w.setNode(a, 77, api.Node{}), w.dropNode(a, 0), w.dropNode(a, 1), w.dropEdge(a, 77)} {
		if err == api.OK {
			t.Error("got no error")
		}
	}
	for _, e := range []api.Edge{{}, edge(1, 20)} {
		if _, err := w.addEdge(a, e); err == api.OK {
			t.Error("got no error")
		}
	}
	if _, _, l, err := w.s.Pending(a); !slices.EqualFunc(l, mine, sameWrite) || err != api.OK {
		t.Errorf("Pending: got %v, %d, want %v", l, err, mine)
	}
	w.did(w.setNode(b, 1, labels("b")))
	w.same(w.setNode(a, 1, labels("c")), api.ErrClash)
	w.same(w.setNode(a, 2, labels("c")), api.ErrState)
	w.same(w.commit(a), api.ErrState)
	// What it had written is undone, and others may write it.
	w.did(w.setNode(b, 5, labels("a")), w.commit(b))
	c := w.begin()
	w.tells(w.s.Label(c, "b"), 1, 2)
	w.tells(w.s.Nodes(c), 1, 2, 3, 4, 5)
	if id := w.adds(c, api.Node{}); id != 7 {
		t.Errorf("got ID %d: that of an aborted one is not used again", id)
	}
}

func TestAbortUndoes(t *testing.T) {
	w := base(t)
	before := w.s.Slots()
	_, _, was := w.s.Image()
	a := w.begin()
	w.did(w.setNode(a, 1, valued("l", whole(9))), w.dropNode(a, 4), w.dropEdge(a, 1), w.dropEdge(a, 3), w.dropNode(a, 1))
	w.adds(a, labels("z"))
	w.ties(a, edge(6, 2))
	w.did(w.dropEdge(a, 4), w.dropNode(a, 6), w.abort(a))
	_, _, is := w.s.Image()
	if w.s.Slots() != before || !slices.EqualFunc(was, is, sameWrite) {
		t.Errorf("got %d slots, %v, want %d, %v", w.s.Slots(), is, before, was)
	}
	b := w.begin()
	w.tells(w.s.Nodes(b), 1, 2, 3, 4, 5)
	w.tells(w.s.Edges(b), 1, 2, 3)
	w.tells(w.s.Label(b, "a"), 1, 2)
	w.tells(w.s.Out(b, 1), 1, 3)
	w.did(w.setNode(b, 1, labels("b")), w.dropNode(b, 4), w.dropEdge(b, 1), w.commit(b))
}

func TestIDsAreAssignedInOrderAndApart(t *testing.T) {
	w := newWorld(t)
	w.quick = true
	a, b := w.begin(), w.begin()
	for i, n := range []int{a, b, b, a, a, b} {
		if id := w.adds(n, labels("a")); id != i+1 {
			t.Errorf("got %d, want %d", id, i+1)
		}
	}
	if w.ties(a, edge(1, 4)) != 1 || w.ties(b, edge(2, 3)) != 2 || w.ties(a, edge(1, 5)) != 3 {
		t.Error("the IDs of edges are not assigned in order")
	}
	w.tells(w.s.Nodes(a), 1, 4, 5)
	w.tells(w.s.Nodes(b), 2, 3, 6)
	w.did(w.abort(a))
	if w.adds(b, api.Node{}) != 7 || w.ties(b, edge(7, 7)) != 4 {
		t.Error("an ID is used again")
	}
	w.did(w.dropEdge(b, 4), w.dropNode(b, 7), w.commit(b))
	c := w.begin()
	if w.adds(c, api.Node{}) != 8 || w.ties(c, edge(8, 8)) != 5 {
		t.Error("an ID is used again")
	}
	w.tells(w.s.Nodes(c), 2, 3, 6, 8)
}

func TestMaxNodes(t *testing.T) {
	w := newWorld(t)
	w.quick = true
	for used := 0; used < api.MaxNodes-1; {
		a := w.begin()
		for range min(5, api.MaxNodes-1-used) {
			w.adds(a, labels("a"))
			used++
		}
		w.did(w.abort(a))
	}
	a := w.begin()
	w.tells(w.s.Nodes(a))
	if id := w.adds(a, labels("b")); id != api.MaxNodes {
		t.Errorf("got ID %d", id)
	}
	for range 2 {
		if id, err := w.addNode(a, labels("b")); id != 0 || err != api.ErrFull {
			t.Errorf("got %d, %d", id, err)
		}
	}
	w.did(w.setNode(a, api.MaxNodes, labels("c")), w.commit(a))
	b := w.begin()
	w.did(w.dropNode(b, api.MaxNodes), w.commit(b))
	w.drain()
	c := w.begin()
	if id, err := w.addNode(c, api.Node{}); id != 0 || err != api.ErrFull {
		t.Errorf("got %d, %d", id, err)
	}
}

func TestMaxEdges(t *testing.T) {
	w := newWorld(t)
	w.quick = true
	a := w.begin()
	w.adds(a, labels("a"), labels("b"))
	w.did(w.commit(a))
	for used := 0; used < api.MaxEdges-1; {
		a := w.begin()
		for range min(7, api.MaxEdges-1-used) {
			w.ties(a, edge(1, 2))
			used++
		}
		w.did(w.abort(a))
	}
	b := w.begin()
	w.tells(w.s.Edges(b))
	if id := w.ties(b, edge(2, 1)); id != api.MaxEdges {
		t.Errorf("got ID %d", id)
	}
	for range 2 {
		if id, err := w.addEdge(b, edge(2, 1)); id != 0 || err != api.ErrFull {
			t.Errorf("got %d, %d", id, err)
		}
	}
	w.did(w.commit(b))
	c := w.begin()
	w.did(w.dropEdge(c, api.MaxEdges), w.dropNode(c, 1), w.commit(c))
	w.drain()
	d := w.begin()
	if id, err := w.addEdge(d, edge(2, 2)); id != 0 || err != api.ErrFull {
		t.Errorf("got %d, %d", id, err)
	}
	// Nodes have IDs of their own.
	if w.adds(d, api.Node{}) != 3 {
		t.Error("a node is refused")
	}
}

func TestSetNodeReplacesAll(t *testing.T) {
	w := newWorld(t)
	a := w.begin()
	w.adds(a, with(labels("a", "b"), "k", whole(1)))
	w.did(w.setNode(a, 1, with(labels("b", "c"), "l", whole(2))))
	if n, ok := w.s.Node(a, 1); !ok || !record.Same(n, with(labels("b", "c"), "l", whole(2))) {
		t.Errorf("got %v, %t", n, ok)
	}
	w.tells(w.s.Label(a, "a"))
	w.tells(w.s.Label(a, "b"), 1)
	w.tells(w.s.Range(a, "k", whole(0), whole(9)))
	w.tells(w.s.Range(a, "l", whole(0), whole(9)), 1)
	w.did(w.setNode(a, 1, api.Node{}))
	if n, ok := w.s.Node(a, 1); !ok || !record.Same(n, api.Node{}) {
		t.Errorf("got %v, %t", n, ok)
	}
	w.did(w.commit(a))
}

func TestFirstWriterWins(t *testing.T) {
	w := base(t)
	a, b, c := w.begin(), w.begin(), w.begin()
	w.did(w.setNode(a, 1, labels("b")))
	w.same(w.setNode(b, 1, labels("c")), api.ErrClash)
	w.did(w.abort(a))
	// The writer was aborted, so that nothing stands against c.
	w.did(w.setNode(c, 1, labels("c")), w.commit(c))
	d := w.begin()
	w.tells(w.s.Label(d, "c"), 1, 4)
}

func TestNoClashWithoutOverlap(t *testing.T) {
	w := base(t)
	for i := range 20 {
		a := w.begin()
		w.did(w.setNode(a, 1, valued("k", whole(i))), w.setNode(a, 2, valued("k", whole(-i))))
		w.did(w.commit(a))
		if i%5 == 0 {
			w.drain()
		}
	}
}

// P11.2

func TestExample(t *testing.T) {
	for _, e := range []api.Edge{edge(4, 1), edge(1, 4), edge(4, 4), edge(5, 4)} {
		for _, commits := range []bool{false, true} {
			w := base(t)
			a, b := w.begin(), w.begin()
			w.did(w.dropNode(a, 4))
			if commits {
				w.did(w.commit(a))
			}
			_, err := w.addEdge(b, e)
			w.same(err, api.ErrClash)
			w.same(w.commit(b), api.ErrState)
			if !commits {
				w.did(w.commit(a))
			}
			c := w.begin()
			w.tells(w.s.Nodes(c), 1, 2, 3, 5)
			w.tells(w.s.Edges(c), 1, 2, 3)
		}
	}
}

// write is a call, and the elements that it writes or touches.
type write struct {
	act
	l []thing
}

// writes returns calls that succeed in what base returns, each one as the first of a transaction.
func writes() []write {
	e := func(id int) thing { return thing{true, id} }
	return []write{
		{act{"set 1", setNode(1, labels("z")), 0}, []thing{node(1)}},
		{act{"set 1 as it is", setNode(1, with(labels("a"), "k", whole(1))), 0}, []thing{node(1)}},
		{act{"set 2", setNode(2, api.Node{}), 0}, []thing{node(2)}},
		{act{"set 3", setNode(3, api.Node{}), 0}, []thing{node(3)}},
		{act{"set 4", setNode(4, valued("k", whole(1))), 0}, []thing{node(4)}},
		{act{"drop 4", dropNode(4), 0}, []thing{node(4)}},
		{act{"drop 5", dropNode(5), 0}, []thing{node(5)}},
		{act{"add 1 to 2", addEdge(edge(1, 2)), 0}, []thing{node(1), node(2)}},
		{act{"add 2 to 1", addEdge(edge(2, 1)), 0}, []thing{node(1), node(2)}},
		{act{"add 1 to 4", addEdge(edge(1, 4)), 0}, []thing{node(1), node(4)}},
		{act{"add 5 to 3", addEdge(edge(5, 3)), 0}, []thing{node(3), node(5)}},
		{act{"add 4 to 5", addEdge(edge(4, 5)), 0}, []thing{node(4), node(5)}},
		{act{"add 1 to 1", addEdge(edge(1, 1)), 0}, []thing{node(1)}},
		{act{"add 4 to 4", addEdge(edge(4, 4)), 0}, []thing{node(4)}},
		{act{"cut 1", dropEdge(1), 0}, []thing{node(1), node(2), e(1)}},
		{act{"cut 2", dropEdge(2), 0}, []thing{node(3), e(2)}},
		{act{"cut 3", dropEdge(3), 0}, []thing{node(1), node(2), e(3)}},
		{act{"add a node", addNode(labels("z")), 0}, nil},
	}
}

// apart tells whether two calls write nothing in common.
func apart(x, y write) bool {
	return !slices.ContainsFunc(x.l, func(e thing) bool { return slices.Contains(y.l, e) })
}

func TestPairsOfWrites(t *testing.T) {
	for _, x := range writes() {
		t.Run(x.name, func(t *testing.T) {
			t.Parallel()
			for _, y := range writes() {
				for order := range 5 {
					wantPair(t, x, y, order)
				}
			}
		})
	}
}

// wantPair makes two calls of overlapping transactions, of which the first one is still live, commits
// in one of three orders, or is aborted.
func wantPair(t *testing.T, x, y write, order int) {
	w := base(t)
	a, b := w.begin(), 0
	if order != 4 {
		b = w.begin()
	}
	w.did(x.call(w, a))
	if order == 4 {
		// It begins after the write, and before the commit.
		b = w.begin()
	}
	switch order {
	case 1, 4:
		w.did(w.commit(a))
	case 2:
		w.did(w.abort(a))
	}
	if order == 2 || apart(x, y) {
		w.did(y.call(w, b))
		if order == 3 {
			w.did(w.commit(b))
		}
	} else {
		w.same(y.call(w, b), api.ErrClash)
		w.same(w.commit(b), api.ErrState)
	}
	w.commit(a)
	w.commit(b)
	w.drain()
	// One that begins now may write anything that is there.
	c := w.begin()
	if err := x.call(w, c); err == api.ErrClash {
		t.Errorf("got %d", err)
	}
	if err := y.call(w, c); err == api.ErrClash {
		t.Errorf("got %d", err)
	}
	w.did(w.commit(c))
}

func TestPairsOfWritesOfOneTransaction(t *testing.T) {
	for _, x := range writes() {
		for _, y := range writes() {
			w := base(t)
			a := w.begin()
			w.did(x.call(w, a))
			if err := y.call(w, a); err == api.ErrClash {
				t.Errorf("%s, %s: got %d", x.name, y.name, err)
			}
			w.did(w.commit(a))
			w.drain()
		}
	}
}

func TestTouchedNodesStayAsTheyAre(t *testing.T) {
	w := base(t)
	a := w.begin()
	w.did(w.setNode(a, 5, labels("b")))
	w.ties(a, edge(1, 4), edge(5, 3))
	for id, want := range map[int]api.Node{1: with(labels("a"), "k", whole(1)), 4: labels("c"), 5: labels("b"), 3: valued("k", whole(2))} {
		if n, ok := w.s.Node(a, id); !ok || !record.Same(n, want) {
			t.Errorf("%d: got %v, %t", id, n, ok)
		}
	}
	w.did(w.dropEdge(a, 2))
	_, _, l, _ := w.s.Pending(a)
	want := []api.Write{
		{ID: 1, N: with(labels("a"), "k", whole(1))}, {ID: 3, N: valued("k", whole(2))}, {ID: 4, N: labels("c")},
		{ID: 5, N: labels("b")}, {Edge: true, ID: 2, Gone: true}, {Edge: true, ID: 4, E: edge(1, 4)}, {Edge: true, ID: 5, E: edge(5, 3)},
	}
	if !slices.EqualFunc(l, want, sameWrite) {
		t.Errorf("got %v, want %v", l, want)
	}
}

func TestEdgesFromANodeToItself(t *testing.T) {
	w := newWorld(t)
	a := w.begin()
	w.adds(a, labels("a"), labels("b"))
	w.ties(a, edge(1, 1), edge(1, 1), edge(1, 2))
	w.tells(w.s.Out(a, 1), 1, 2, 3)
	w.tells(w.s.In(a, 1), 1, 2)
	w.tells(w.s.In(a, 2), 3)
	// Two nodes with a label each, three edges with two entries each.
	if w.s.Slots() != 2+2+3+6 {
		t.Errorf("Slots: got %d", w.s.Slots())
	}
	w.same(w.dropNode(a, 1), api.ErrEdges)
	w.did(w.dropEdge(a, 3), w.dropEdge(a, 1))
	w.same(w.dropNode(a, 1), api.ErrEdges)
	w.did(w.dropEdge(a, 2), w.dropNode(a, 1), w.commit(a))
	b := w.begin()
	w.tells(w.s.Nodes(b), 2)
	w.tells(w.s.Edges(b))
}

func TestEdgesBetweenTheSameNodes(t *testing.T) {
	w := newWorld(t)
	a := w.begin()
	w.adds(a, labels("a"), labels("b"))
	w.ties(a, edge(1, 2), edge(1, 2), edge(2, 1))
	w.tells(w.s.Out(a, 1), 1, 2)
	w.tells(w.s.In(a, 1), 3)
	w.did(w.commit(a))
	b := w.begin()
	w.did(w.dropEdge(b, 1))
	w.tells(w.s.Out(b, 1), 2)
	w.tells(w.s.In(b, 2), 2)
	w.did(w.commit(b))
	// The other one is as it was.
	c, d := w.begin(), w.begin()
	w.did(w.dropEdge(c, 2))
	w.same(w.dropEdge(d, 3), api.ErrClash)
	w.did(w.commit(c))
	w.drain()
	e := w.begin()
	w.tells(w.s.Out(e, 1))
	w.tells(w.s.In(e, 1), 3)
}

func TestADroppedNodeWhoseEdgesAnotherHasAdded(t *testing.T) {
	for _, e := range []api.Edge{edge(4, 1), edge(1, 4), edge(4, 4)} {
		for _, commits := range []bool{false, true} {
			w := base(t)
			a, b := w.begin(), w.begin()
			w.ties(a, e)
			if commits {
				w.did(w.commit(a))
			}
			w.tells(w.s.Out(b, 4))
			w.same(w.dropNode(b, 4), api.ErrClash)
			w.commit(a)
			c := w.begin()
			w.same(w.dropNode(c, 4), api.ErrEdges)
			w.did(w.dropEdge(c, 4), w.dropNode(c, 4), w.commit(c))
		}
		w := base(t)
		a, b := w.begin(), w.begin()
		w.ties(a, e)
		w.did(w.abort(a), w.dropNode(b, 4), w.commit(b))
	}
}

func TestADroppedNodeWhoseEdgesAnotherHasDropped(t *testing.T) {
	for _, commits := range []bool{false, true} {
		w := base(t)
		a, b := w.begin(), w.begin()
		w.did(w.dropEdge(a, 1), w.dropEdge(a, 3))
		if commits {
			w.did(w.commit(a))
		}
		// b reads the edges still, and is told so rather than that it clashes.
		w.same(w.dropNode(b, 1), api.ErrEdges)
		w.same(w.dropEdge(b, 1), api.ErrClash)
		w.commit(a)
		c := w.begin()
		w.did(w.dropNode(c, 1), w.dropNode(c, 2), w.commit(c))
	}
	w := base(t)
	a, b := w.begin(), w.begin()
	w.did(w.dropEdge(a, 1), w.dropEdge(a, 3), w.abort(a))
	w.same(w.dropNode(b, 1), api.ErrEdges)
	w.did(w.dropEdge(b, 1), w.dropEdge(b, 3), w.dropNode(b, 1), w.commit(b))
}

func TestAnEdgeThatIsAddedAndDropped(t *testing.T) {
	w := base(t)
	a := w.begin()
	id := w.ties(a, edge(4, 5))
	w.did(w.dropEdge(a, id))
	w.same(w.dropEdge(a, id), api.ErrNone)
	w.tells(w.s.Out(a, 4))
	w.did(w.dropNode(a, 4), w.dropNode(a, 5), w.commit(a))
	w.drain()
}

// P11.3

func TestLabelsOfVersions(t *testing.T) {
	w := newWorld(t)
	a := w.begin()
	w.adds(a, labels("a", "b"), labels("b"))
	w.did(w.commit(a))
	old := w.begin()
	b := w.begin()
	w.did(w.setNode(b, 1, labels("b", "c")), w.commit(b))
	mid := w.begin()
	c := w.begin()
	w.did(w.setNode(c, 1, labels("a", "c")), w.setNode(c, 2, labels("c")))
	w.tells(w.s.Label(c, "a"), 1)
	w.tells(w.s.Label(c, "b"))
	w.did(w.commit(c))
	late := w.begin()
	for _, x := range []struct {
		t       int
		a, b, c []int
	}{{old, []int{1}, []int{1, 2}, nil}, {mid, nil, []int{1, 2}, []int{1}}, {late, []int{1}, nil, []int{1, 2}}} {
		w.tells(w.s.Label(x.t, "a"), x.a...)
		w.tells(w.s.Label(x.t, "b"), x.b...)
		w.tells(w.s.Label(x.t, "c"), x.c...)
	}
	// Five versions; node 1 has a, b and c in some of them, node 2 has b and c.
	if w.s.Slots() != 5+3+2 {
		t.Errorf("Slots: got %d", w.s.Slots())
	}
	w.did(w.commit(old))
	if w.drain() != 1 || w.s.Slots() != 4+3+2 {
		t.Errorf("Slots: got %d", w.s.Slots())
	}
	w.did(w.abort(mid))
	if w.drain() != 2 || w.s.Slots() != 2+2+1 {
		t.Errorf("Slots: got %d", w.s.Slots())
	}
}

func TestValuesOfVersions(t *testing.T) {
	w := newWorld(t)
	a := w.begin()
	w.adds(a, valued("k", whole(1)), with(valued("k", whole(1)), "l", whole(1)))
	w.did(w.commit(a))
	old := w.begin()
	b := w.begin()
	w.did(w.setNode(b, 1, valued("k", whole(2))), w.setNode(b, 2, valued("l", whole(1))))
	w.tells(w.s.Range(b, "k", whole(1), whole(2)), 1)
	w.tells(w.s.Range(old, "k", whole(1), whole(2)), 1, 2)
	w.did(w.commit(b))
	mid := w.begin()
	c := w.begin()
	w.did(w.setNode(c, 1, with(valued("k", whole(1)), "l", whole(0))), w.dropNode(c, 2), w.commit(c))
	late := w.begin()
	w.tells(w.s.Range(old, "k", whole(1), whole(2)), 1, 2)
	w.tells(w.s.Range(old, "l", whole(0), whole(1)), 2)
	w.tells(w.s.Range(mid, "k", whole(1), whole(2)), 1)
	w.tells(w.s.Range(mid, "k", whole(1), whole(1)))
	w.tells(w.s.Range(mid, "l", whole(0), whole(1)), 2)
	w.tells(w.s.Range(late, "k", whole(1), whole(1)), 1)
	w.tells(w.s.Range(late, "l", whole(0), whole(1)), 1)
	// Six versions; node 1 has k as 1 and 2 and l as 0, node 2 has k and l as 1.
	if w.s.Slots() != 6+3+2 {
		t.Errorf("Slots: got %d", w.s.Slots())
	}
	w.did(w.commit(old), w.commit(mid))
	w.drain()
	if w.s.Slots() != 1+2 {
		t.Errorf("Slots: got %d", w.s.Slots())
	}
}

// spread returns a world with a node for each value between which ranges are asked but Null, in an
// order of its own, and the IDs by rising values.
func spread(t *testing.T) (*world, []int) {
	w := newWorld(t)
	a := w.begin()
	l := bounds()[1:]
	ids := make([]int, len(l))
	for i := range l {
		k := (i*7 + 3) % len(l)
		ids[k] = w.adds(a, valued("k", l[k]))
	}
	if slices.Contains(ids, 0) {
		t.Fatal("a value was left out")
	}
	w.did(w.commit(a))
	return w, ids
}

func TestRangeOverAllKinds(t *testing.T) {
	w, ids := spread(t)
	a := w.begin()
	l := bounds()[1:]
	w.tells(w.s.Range(a, "k", api.Val{}, text("~~~~~~~~~~~~")), ids...)
	w.tells(w.s.Range(a, "k", truth(false), text("~~~~~~~~~~~~")), ids...)
	w.tells(w.s.Range(a, "k", api.Val{}, api.Val{}))
	for i := range l {
		w.tells(w.s.Range(a, "k", l[i], l[i]), ids[i])
		w.tells(w.s.Range(a, "k", api.Val{}, l[i]), ids[:i+1]...)
		w.tells(w.s.Range(a, "k", l[i], text("~~~~~~~~~~~~")), ids[i:]...)
		w.tells(w.s.Range(a, "k", l[i], api.Val{}))
		for k := range i {
			w.tells(w.s.Range(a, "k", l[i], l[k]))
			w.tells(w.s.Range(a, "k", l[k], l[i]), ids[k:i+1]...)
		}
		w.tells(w.s.Range(a, "l", api.Val{}, l[i]))
	}
}

func TestRangeOverOneKind(t *testing.T) {
	w, ids := spread(t)
	a := w.begin()
	// In bounds, without Null: two Bools, four Ints, six Reals, four Texts.
	w.tells(w.s.Range(a, "k", truth(false), truth(true)), ids[:2]...)
	w.tells(w.s.Range(a, "k", whole(math.MinInt), whole(math.MaxInt)), ids[2:6]...)
	w.tells(w.s.Range(a, "k", number(negInf), number(nan)), ids[6:12]...)
	w.tells(w.s.Range(a, "k", text(""), text("~~~~~~~~~~~~")), ids[12:]...)
	w.tells(w.s.Range(a, "k", number(negZero), number(negZero)), ids[7])
	w.tells(w.s.Range(a, "k", number(0), number(0)), ids[8])
	w.tells(w.s.Range(a, "k", number(negZero), number(0)), ids[7], ids[8])
	w.tells(w.s.Range(a, "k", number(0), number(negZero)))
	w.tells(w.s.Range(a, "k", number(nan), number(nan)), ids[11])
	w.tells(w.s.Range(a, "k", number(posInf), number(nan)), ids[10], ids[11])
	w.tells(w.s.Range(a, "k", number(nan), number(posInf)))
	w.tells(w.s.Range(a, "k", number(negInf), number(negInf)), ids[6])
	w.tells(w.s.Range(a, "k", whole(0), whole(1)), ids[3], ids[4])
	w.tells(w.s.Range(a, "k", whole(1), whole(0)))
	w.tells(w.s.Range(a, "k", text("p"), text("pq")), ids[13], ids[14])
	w.tells(w.s.Range(a, "k", text("q"), text("z")))
}

func TestRangeWithEqualValues(t *testing.T) {
	w := newWorld(t)
	a := w.begin()
	for _, v := range []api.Val{whole(2), whole(1), whole(2), number(nan), whole(1), number(nan), number(0), number(negZero), number(0), whole(2)} {
		w.adds(a, valued("k", v))
	}
	w.tells(w.s.Range(a, "k", whole(1), whole(2)), 2, 5, 1, 3, 10)
	w.tells(w.s.Range(a, "k", whole(2), whole(2)), 1, 3, 10)
	w.tells(w.s.Range(a, "k", number(nan), number(nan)), 4, 6)
	w.tells(w.s.Range(a, "k", number(negInf), number(nan)), 8, 7, 9, 4, 6)
	w.tells(w.s.Range(a, "k", number(negZero), number(0)), 8, 7, 9)
	w.tells(w.s.Range(a, "k", number(0), number(0)), 7, 9)
	w.did(w.setNode(a, 1, valued("k", whole(1))), w.setNode(a, 2, valued("k", whole(2))))
	w.tells(w.s.Range(a, "k", whole(1), whole(2)), 1, 5, 2, 3, 10)
	w.did(w.commit(a))
}

func TestRangeWithInvalidEnds(t *testing.T) {
	w, _ := spread(t)
	a := w.begin()
	for _, b := range broken() {
		for _, v := range bounds() {
			w.tells(w.s.Range(a, "k", b, v))
			w.tells(w.s.Range(a, "k", v, b))
		}
		w.tells(w.s.Range(a, "k", b, b))
	}
}

func TestRangeAndLabelDoNotMix(t *testing.T) {
	w := newWorld(t)
	a := w.begin()
	w.adds(a, labels("k"), valued("k", text("k")), with(labels("l"), "l", text("l")))
	w.tells(w.s.Label(a, "k"), 1)
	w.tells(w.s.Label(a, "l"), 3)
	w.tells(w.s.Range(a, "k", text(""), text("zz")), 2)
	w.tells(w.s.Range(a, "l", text(""), text("zz")), 3)
	w.tells(w.s.Range(a, "", text(""), text("zz")))
	if w.s.Slots() != 3+2+2 {
		t.Errorf("Slots: got %d", w.s.Slots())
	}
}

func TestPropertiesOfDifferentKeys(t *testing.T) {
	w := newWorld(t)
	a := w.begin()
	w.adds(a, with(with(valued("a", whole(1)), "k", whole(2)), "l", whole(3)), with(valued("k", whole(3)), "l", whole(2)))
	w.tells(w.s.Range(a, "a", whole(0), whole(9)), 1)
	w.tells(w.s.Range(a, "k", whole(0), whole(9)), 1, 2)
	w.tells(w.s.Range(a, "l", whole(0), whole(9)), 2, 1)
	w.tells(w.s.Range(a, "k", whole(3), whole(9)), 2)
	// A node for which one value of a key comes, and that of another key goes.
	w.did(w.setNode(a, 1, valued("k", whole(3))))
	w.tells(w.s.Range(a, "k", whole(0), whole(9)), 1, 2)
	w.tells(w.s.Range(a, "l", whole(0), whole(9)), 2)
	w.did(w.commit(a))
}

func TestOutAndInAreAscending(t *testing.T) {
	w := newWorld(t)
	w.quick = true
	a := w.begin()
	w.adds(a, api.Node{}, api.Node{}, api.Node{})
	w.did(w.commit(a))
	// Loaded in an order that is not theirs, and then written again.
	w.did(w.load(3, 9, []api.Write{
		{Edge: true, ID: 7, E: edge(1, 2)}, {Edge: true, ID: 2, E: edge(1, 2)}, {Edge: true, ID: 9, E: edge(3, 2)},
		{Edge: true, ID: 4, E: edge(1, 3)}, {Edge: true, ID: 1, E: edge(1, 1)},
	}))
	w.did(w.load(3, 9, []api.Write{{Edge: true, ID: 2, Gone: true}}))
	w.did(w.load(3, 9, []api.Write{{Edge: true, ID: 8, E: edge(1, 2)}, {Edge: true, ID: 2, E: edge(1, 2)}}))
	b := w.begin()
	w.tells(w.s.Out(b, 1), 1, 2, 4, 7, 8)
	w.tells(w.s.In(b, 2), 2, 7, 8, 9)
	w.tells(w.s.Edges(b), 1, 2, 4, 7, 8, 9)
	if id := w.ties(b, edge(1, 2)); id != 10 {
		t.Errorf("got ID %d", id)
	}
	w.tells(w.s.Out(b, 1), 1, 2, 4, 7, 8, 10)
}
