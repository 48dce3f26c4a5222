package store_test

import (
	"fmt"
	"maps"
	"math"
	"reflect"
	"slices"
	"strings"
	"testing"

	"ligature/api"
	"ligature/record"
	"ligature/store"
	"ligature/value"
)

var (
	nan     = math.Float64frombits(0x7ff8000000000000)
	negZero = math.Copysign(0, -1)
	posInf  = math.Inf(1)
	negInf  = math.Inf(-1)
)

func truth(b bool) api.Val     { return api.Val{Kind: api.Bool, B: b} }
func whole(n int) api.Val      { return api.Val{Kind: api.Int, N: n} }
func number(f float64) api.Val { return api.Val{Kind: api.Real, F: f} }
func text(s string) api.Val    { return api.Val{Kind: api.Text, T: s} }

// labels returns a node with these labels.
func labels(l ...string) api.Node { return api.Node{Labels: l} }

// with returns n with one more property.
func with(n api.Node, key string, v api.Val) api.Node {
	n.Props = append(slices.Clone(n.Props), api.Prop{Key: key, V: v})
	return n
}

// valued returns a node with one property.
func valued(key string, v api.Val) api.Node { return with(api.Node{}, key, v) }

// edge returns an edge between two nodes.
func edge(from, to int) api.Edge { return api.Edge{From: from, To: to, Type: "t", W: 1} }

// thing is a node or an edge.
type thing struct {
	edge bool
	id   int
}

func node(id int) thing { return thing{false, id} }

func compareThings(a, b thing) int {
	if a.edge != b.edge {
		if b.edge {
			return -1
		}
		return 1
	}
	return a.id - b.id
}

// graph is what there is at one time.
type graph struct {
	nodes map[int]api.Node
	edges map[int]api.Edge
}

func newGraph() graph { return graph{map[int]api.Node{}, map[int]api.Edge{}} }

func (g graph) clone() graph { return graph{maps.Clone(g.nodes), maps.Clone(g.edges)} }

// put makes of an element what w tells.
func (g graph) put(w api.Write) {
	switch {
	case w.Edge && w.Gone:
		delete(g.edges, w.ID)
	case w.Edge:
		g.edges[w.ID] = w.E
	case w.Gone:
		delete(g.nodes, w.ID)
	default:
		g.nodes[w.ID] = w.N
	}
}

// get tells what an element is.
func (g graph) get(x thing) api.Write {
	if x.edge {
		e, ok := g.edges[x.id]
		return api.Write{Edge: true, ID: x.id, Gone: !ok, E: e}
	}
	n, ok := g.nodes[x.id]
	return api.Write{ID: x.id, Gone: !ok, N: n}
}

// all returns all elements, nodes first.
func (g graph) all() []api.Write {
	var l []api.Write
	for _, id := range slices.Sorted(maps.Keys(g.nodes)) {
		l = append(l, g.get(node(id)))
	}
	for _, id := range slices.Sorted(maps.Keys(g.edges)) {
		l = append(l, g.get(thing{true, id}))
	}
	return l
}

// joined tells whether each edge has both nodes.
func (g graph) joined() bool {
	for _, e := range g.edges {
		_, from := g.nodes[e.From]
		_, to := g.nodes[e.To]
		if !from || !to {
			return false
		}
	}
	return true
}

// transaction is a live one: what it reads is what there was when it began, with its own writes.
type transaction struct {
	mark int // the number of commits when it began
	view graph
	own  map[thing]bool
}

type version struct {
	by int
	w  api.Write
}

// world is a Store and what the document says of it, in two ways: what transactions read and whether
// they clash by plain copies of the graph, and what is kept by lists of versions.
type world struct {
	t        *testing.T
	s        *store.Store
	now      graph // by the commits
	nodes    int   // IDs assigned
	edges    int
	begun    int
	commits  int
	live     map[int]*transaction
	ended    []int
	place    map[int]int   // the number of the commit of a transaction
	changed  map[thing]int // the number of the last commit that wrote an element
	versions map[thing][]version
	quick    bool // only some ranges at each look
	blind    bool // no look
	looks    int
	past     []string
	seen     map[string]int // how often each call has returned each error
}

func newWorld(t *testing.T) *world {
	return &world{
		t: t, s: store.New(), now: newGraph(), live: map[int]*transaction{}, place: map[int]int{},
		changed: map[thing]int{}, versions: map[thing][]version{}, seen: map[string]int{},
	}
}

// say notes a call: its name comes first, and what it has returned last.
func (w *world) say(format string, a ...any) {
	name, _, _ := strings.Cut(format, "(")
	w.seen[fmt.Sprint(name, " ", a[len(a)-1])]++
	w.past = append(w.past, fmt.Sprintf(format, a...))
}

func (w *world) fail(format string, a ...any) {
	w.t.Helper()
	past := w.past[max(0, len(w.past)-60):]
	w.t.Fatalf("%s\nafter %s", fmt.Sprintf(format, a...), strings.Join(past, ", "))
}

// same tells whether an error is the one that is wanted.
func (w *world) same(got, want api.Errno) {
	w.t.Helper()
	if got != want {
		w.fail("got error %d, want %d", got, want)
	}
}

// copied returns n in memory of its own.
func copied(n api.Node) api.Node {
	return api.Node{Labels: slices.Clone(n.Labels), Props: slices.Clone(n.Props)}
}

// roomy returns n with some memory behind its slices, which must not be written either.
func roomy(n api.Node) api.Node {
	l := append(make([]string, 0, len(n.Labels)+2), n.Labels...)
	p := append(make([]api.Prop, 0, len(n.Props)+2), n.Props...)
	copy(l[len(l):cap(l)], []string{"zy", "zx"})
	copy(p[len(p):cap(p)], []api.Prop{{Key: "zy", V: whole(77)}, {Key: "zx", V: whole(78)}})
	return api.Node{Labels: l, Props: p}
}

// memory returns all memory of n as a text.
func memory(n api.Node) string {
	return fmt.Sprintf("%q %v", n.Labels[:cap(n.Labels)], n.Props[:cap(n.Props)])
}

// memories returns all memory of some writes as a text.
func memories(l []api.Write) string {
	l = l[:cap(l)]
	s := fmt.Sprint(l)
	for _, y := range l {
		s += memory(y.N)
	}
	return s
}

// scribble writes all over the memory of n.
func scribble(n api.Node) {
	l, p := n.Labels[:cap(n.Labels)], n.Props[:cap(n.Props)]
	for i := range l {
		l[i] = "junk"
	}
	for i := range p {
		p[i] = api.Prop{Key: "junk", V: text("junk")}
	}
}

// scrawl writes all over the memory of some IDs.
func scrawl(l []int) {
	l = l[:cap(l)]
	for i := range l {
		l[i] = -77
	}
}

// scratch writes all over the memory of writes.
func scratch(l []api.Write) {
	l = l[:cap(l)]
	for i := range l {
		scribble(l[i].N)
		l[i] = api.Write{ID: -77, Edge: true, N: labels("junk"), E: edge(77, 77)}
	}
}

// lend calls f with n, and with the memory of n changed as soon as f has returned.
func (w *world) lend(n api.Node, f func(n api.Node)) {
	w.t.Helper()
	mine := roomy(n)
	before := memory(mine)
	f(mine)
	if memory(mine) != before {
		w.fail("the argument is now %s, and was %s", memory(mine), before)
	}
	scribble(mine)
}

// The calls. Each one is made of the Store and compared with what the document says, and then all
// that the Store tells is compared.

func (w *world) tryBegin() (int, api.Errno) {
	w.t.Helper()
	t, err := w.s.Begin()
	w.say("Begin(): %d (%d)", t, err)
	if len(w.live) == api.MaxLive {
		if t != 0 || err != api.ErrFull {
			w.fail("Begin: got %d, %d", t, err)
		}
		w.look()
		return t, err
	}
	w.begun++
	if t != w.begun || err != api.OK {
		w.fail("Begin: got %d, %d, want %d", t, err, w.begun)
	}
	w.live[t] = &transaction{mark: w.commits, view: w.now.clone(), own: map[thing]bool{}}
	w.look()
	return t, err
}

func (w *world) begin() int {
	w.t.Helper()
	t, err := w.tryBegin()
	w.same(err, api.OK)
	return t
}

func (w *world) commit(t int) api.Errno {
	w.t.Helper()
	got := w.s.Commit(t)
	w.say("Commit(%d) (%d)", t, got)
	x := w.live[t]
	if x == nil {
		w.same(got, api.ErrState)
		w.look()
		return got
	}
	w.same(got, api.OK)
	w.committed(t, x)
	w.look()
	return got
}

func (w *world) committed(t int, x *transaction) {
	w.commits++
	w.place[t] = w.commits
	for e := range x.own {
		w.changed[e] = w.commits
		w.now.put(x.view.get(e))
	}
	delete(w.live, t)
	w.ended = append(w.ended, t)
}

func (w *world) abort(t int) api.Errno {
	w.t.Helper()
	got := w.s.Abort(t)
	w.say("Abort(%d) (%d)", t, got)
	want := api.OK
	if w.live[t] == nil {
		want = api.ErrState
	}
	w.same(got, want)
	w.aborted(t)
	w.look()
	return got
}

func (w *world) aborted(t int) {
	if w.live[t] == nil {
		return
	}
	for e, l := range w.versions {
		w.versions[e] = slices.DeleteFunc(l, func(v version) bool { return v.by == t })
	}
	delete(w.live, t)
	w.ended = append(w.ended, t)
}

// clashes: another live one has written one of the elements, or one has committed since t began.
func (w *world) clashes(t int, l ...thing) bool {
	for _, e := range l {
		for other, x := range w.live {
			if other != t && x.own[e] {
				return true
			}
		}
		if w.changed[e] > w.live[t].mark {
			return true
		}
	}
	return false
}

// write has t write.
func (w *world) write(t int, l ...api.Write) {
	for _, y := range l {
		e := thing{y.Edge, y.ID}
		w.live[t].view.put(y)
		w.live[t].own[e] = true
		v := w.versions[e]
		if n := len(v); n > 0 && v[n-1].by == t {
			v[n-1].w = y
		} else {
			w.versions[e] = append(v, version{t, y})
		}
	}
}

// settle compares an error, does what the call was to do if there is none, and looks at all.
func (w *world) settle(t int, got, want api.Errno, do func()) api.Errno {
	w.t.Helper()
	w.same(got, want)
	switch want {
	case api.OK:
		do()
	case api.ErrClash:
		w.aborted(t)
	}
	w.look()
	return got
}

func (w *world) addNode(t int, n api.Node) (int, api.Errno) {
	w.t.Helper()
	want := api.OK
	switch {
	case w.live[t] == nil:
		want = api.ErrState
	case !record.IsNode(n):
		want = api.ErrArg
	case w.nodes >= api.MaxNodes:
		want = api.ErrFull
	}
	var id int
	var got api.Errno
	w.lend(n, func(n api.Node) { id, got = w.s.AddNode(t, n) })
	w.say("AddNode(%d, %v): %d (%d)", t, n, id, got)
	w.settle(t, got, want, func() {
		w.nodes++
		w.write(t, api.Write{ID: w.nodes, N: copied(n)})
	})
	w.wantID(id, w.nodes, want)
	return id, got
}

// wantID asks for an ID, or for 0 beside an error.
func (w *world) wantID(got, want int, err api.Errno) {
	w.t.Helper()
	if err != api.OK {
		want = 0
	}
	if got != want {
		w.fail("got ID %d, want %d", got, want)
	}
}

func (w *world) reads(t, id int) bool {
	_, ok := w.live[t].view.nodes[id]
	return ok
}

func (w *world) setNode(t, id int, n api.Node) api.Errno {
	w.t.Helper()
	want := api.OK
	switch {
	case w.live[t] == nil:
		want = api.ErrState
	case !record.IsNode(n):
		want = api.ErrArg
	case !w.reads(t, id):
		want = api.ErrNone
	case w.clashes(t, node(id)):
		want = api.ErrClash
	}
	var got api.Errno
	w.lend(n, func(n api.Node) { got = w.s.SetNode(t, id, n) })
	w.say("SetNode(%d, %d, %v) (%d)", t, id, n, got)
	return w.settle(t, got, want, func() { w.write(t, api.Write{ID: id, N: copied(n)}) })
}

func (w *world) dropNode(t, id int) api.Errno {
	w.t.Helper()
	want := api.OK
	switch {
	case w.live[t] == nil:
		want = api.ErrState
	case !w.reads(t, id):
		want = api.ErrNone
	case len(w.out(t, id))+len(w.in(t, id)) > 0:
		want = api.ErrEdges
	case w.clashes(t, node(id)):
		want = api.ErrClash
	}
	got := w.s.DropNode(t, id)
	w.say("DropNode(%d, %d) (%d)", t, id, got)
	return w.settle(t, got, want, func() { w.write(t, api.Write{ID: id, Gone: true}) })
}

// touch has t write the two nodes of e as they are.
func (w *world) touch(t int, e api.Edge) {
	w.write(t, w.live[t].view.get(node(e.From)), w.live[t].view.get(node(e.To)))
}

func (w *world) addEdge(t int, e api.Edge) (int, api.Errno) {
	w.t.Helper()
	want := api.OK
	switch {
	case w.live[t] == nil:
		want = api.ErrState
	case !record.IsEdge(e):
		want = api.ErrArg
	case !w.reads(t, e.From) || !w.reads(t, e.To):
		want = api.ErrNone
	case w.edges >= api.MaxEdges:
		want = api.ErrFull
	case w.clashes(t, node(e.From), node(e.To)):
		want = api.ErrClash
	}
	id, got := w.s.AddEdge(t, e)
	w.say("AddEdge(%d, %v): %d (%d)", t, e, id, got)
	w.settle(t, got, want, func() {
		w.edges++
		w.touch(t, e)
		w.write(t, api.Write{Edge: true, ID: w.edges, E: e})
	})
	w.wantID(id, w.edges, want)
	return id, got
}

func (w *world) dropEdge(t, id int) api.Errno {
	w.t.Helper()
	var e api.Edge
	ok := false
	if w.live[t] != nil {
		e, ok = w.live[t].view.edges[id]
	}
	want := api.OK
	switch {
	case w.live[t] == nil:
		want = api.ErrState
	case !ok:
		want = api.ErrNone
	case w.clashes(t, thing{true, id}, node(e.From), node(e.To)):
		want = api.ErrClash
	}
	got := w.s.DropEdge(t, id)
	w.say("DropEdge(%d, %d) (%d)", t, id, got)
	return w.settle(t, got, want, func() {
		w.touch(t, e)
		w.write(t, api.Write{Edge: true, ID: id, Gone: true})
	})
}

// wouldLoad returns the error of Load.
func (w *world) wouldLoad(nodes, edges int, l []api.Write) api.Errno {
	if _, err := record.Encode(nodes, edges, l); err != api.OK {
		return api.ErrArg
	}
	if len(w.live) > 0 {
		return api.ErrState
	}
	after := w.now.clone()
	for _, y := range l {
		after.put(y)
		for _, v := range w.versions[thing{y.Edge, y.ID}] {
			if y.Edge && !y.Gone && !v.w.Gone && (v.w.E.From != y.E.From || v.w.E.To != y.E.To) {
				return api.ErrArg
			}
		}
	}
	if !after.joined() {
		return api.ErrArg
	}
	return api.OK
}

func (w *world) load(nodes, edges int, l []api.Write) api.Errno {
	w.t.Helper()
	want := w.wouldLoad(nodes, edges, l)
	mine := make([]api.Write, 0, len(l)+1)
	for _, y := range l {
		y.N = roomy(y.N)
		mine = append(mine, y)
	}
	before := memories(mine)
	got := w.s.Load(nodes, edges, mine)
	w.say("Load(%d, %d, %v) (%d)", nodes, edges, l, got)
	if after := memories(mine); after != before {
		w.fail("the argument is now %s, and was %s", after, before)
	}
	scratch(mine)
	w.same(got, want)
	if want == api.OK {
		w.loaded(nodes, edges, l)
	}
	w.look()
	return got
}

func (w *world) loaded(nodes, edges int, l []api.Write) {
	w.nodes, w.edges = max(w.nodes, nodes), max(w.edges, edges)
	w.begun++
	x := &transaction{mark: w.commits, view: w.now.clone(), own: map[thing]bool{}}
	w.live[w.begun] = x
	for _, y := range l {
		y.N = copied(y.N)
		w.write(w.begun, y)
	}
	w.committed(w.begun, x)
}

func (w *world) settled(by int) bool {
	if w.place[by] == 0 {
		return false
	}
	for _, x := range w.live {
		if w.place[by] > x.mark {
			return false
		}
	}
	return true
}

// obsolete returns the place of the first obsolete version of an element, or -1.
func (w *world) obsolete(e thing) int {
	l := w.versions[e]
	for k, v := range l {
		if k == 0 && v.w.Gone && w.settled(v.by) {
			return k
		}
		for _, later := range l[k+1:] {
			if w.settled(later.by) {
				return k
			}
		}
	}
	return -1
}

// fewer returns the elements that have now fewer versions than before.
func fewer(edge bool, before, after []int) []thing {
	var l []thing
	for i := range before {
		for range before[i] - after[i] {
			l = append(l, thing{edge, i + 1})
		}
	}
	return l
}

func (w *world) vacuum() bool {
	w.t.Helper()
	nodes, edges := store.Lens(w.s)
	got := w.s.Vacuum()
	n, e := store.Lens(w.s)
	lost := append(fewer(false, nodes, n), fewer(true, edges, e)...)
	w.say("Vacuum(): %v (%t)", lost, got)
	want := false
	for e := range w.versions {
		want = want || w.obsolete(e) >= 0
	}
	if got != want || got != (len(lost) == 1) || len(lost) > 1 {
		w.fail("Vacuum: got %t, want %t, with a version less of %v", got, want, lost)
	}
	if got {
		k := w.obsolete(lost[0])
		if k < 0 {
			w.fail("Vacuum removed a version of %v that is not obsolete", lost)
		}
		w.versions[lost[0]] = slices.Delete(w.versions[lost[0]], k, k+1)
	}
	w.look()
	return got
}

// drain calls Vacuum until it returns false, and returns how often it has returned true.
func (w *world) drain() int {
	w.t.Helper()
	n := 0
	for w.vacuum() {
		n++
	}
	return n
}

// What the document says of reading.

func (w *world) out(t, id int) []int {
	return w.edgesWhere(t, func(e api.Edge) bool { return e.From == id })
}

func (w *world) in(t, id int) []int {
	return w.edgesWhere(t, func(e api.Edge) bool { return e.To == id })
}

func (w *world) edgesWhere(t int, f func(e api.Edge) bool) []int {
	var l []int
	for id, e := range w.live[t].view.edges {
		if f(e) {
			l = append(l, id)
		}
	}
	slices.Sort(l)
	return l
}

func (w *world) label(t int, name string) []int {
	var l []int
	for id, n := range w.live[t].view.nodes {
		if slices.Contains(n.Labels, name) {
			l = append(l, id)
		}
	}
	slices.Sort(l)
	return l
}

// entries returns the values of a key, in order.
func (w *world) entries(t int, key string) []api.Entry {
	var l []api.Entry
	for id, n := range w.live[t].view.nodes {
		for _, p := range n.Props {
			if p.Key == key {
				l = append(l, api.Entry{V: p.V, ID: id})
			}
		}
	}
	slices.SortFunc(l, func(a, b api.Entry) int {
		if c := value.Cmp(a.V, b.V); c != 0 {
			return c
		}
		return a.ID - b.ID
	})
	return l
}

func (w *world) pending(t int) []api.Write {
	var l []api.Write
	x := w.live[t]
	for _, e := range slices.SortedFunc(maps.Keys(x.own), compareThings) {
		l = append(l, x.view.get(e))
	}
	return l
}

// slots counts what the document says that there is.
func (w *world) slots() int {
	n := 0
	for e, l := range w.versions {
		n += len(l)
		found := map[string]bool{}
		for _, v := range l {
			if v.w.Gone {
				continue
			}
			if e.edge {
				found["out"], found["in"] = true, true
			}
			for _, s := range v.w.N.Labels {
				found["label "+s] = true
			}
			for _, p := range v.w.N.Props {
				found[fmt.Sprint("value ", p.Key, p.V.Kind, p.V.B, p.V.N, math.Float64bits(p.V.F), p.V.T)] = true
			}
		}
		n += len(found)
	}
	return n
}

// Looking.

// look compares all that the Store tells.
func (w *world) look() {
	w.t.Helper()
	if w.blind {
		return
	}
	w.looks++
	for _, t := range slices.Sorted(maps.Keys(w.live)) {
		w.lookAs(t)
	}
	dead := []int{0, -1, math.MinInt, math.MaxInt, w.begun + 1}
	dead = append(dead, w.ended[max(0, len(w.ended)-3):]...)
	for _, t := range dead {
		w.lookDead(t)
	}
	nodes, edges, l := w.s.Image()
	if nodes != w.nodes || edges != w.edges {
		w.fail("Image: got %d and %d IDs, want %d and %d", nodes, edges, w.nodes, w.edges)
	}
	w.wantWrites(l, w.now.all(), "Image")
	if got := w.s.Slots(); got != w.slots() {
		w.fail("Slots: got %d, want %d", got, w.slots())
	}
	if got := w.s.Live(); got != len(w.live) {
		w.fail("Live: got %d, want %d", got, len(w.live))
	}
}

// wantWrites compares some writes, and writes all over them.
func (w *world) wantWrites(got, want []api.Write, name string) {
	w.t.Helper()
	if !slices.EqualFunc(got, want, sameWrite) {
		w.fail("%s: got %v, want %v", name, got, want)
	}
	scratch(got)
}

func sameWrite(a, b api.Write) bool {
	return a.Edge == b.Edge && a.ID == b.ID && a.Gone == b.Gone && record.Same(a.N, b.N) && record.SameEdge(a.E, b.E)
}

// wantIDs compares some IDs, and writes all over them.
func (w *world) wantIDs(got, want []int, format string, a ...any) {
	w.t.Helper()
	if !slices.Equal(got, want) {
		w.fail("%s: got %v, want %v", fmt.Sprintf(format, a...), got, want)
	}
	scrawl(got)
}

// near returns the IDs up to n and some that are none.
func near(n int) []int {
	l := []int{math.MinInt, -1, 0}
	for id := 1; id <= n+1; id++ {
		l = append(l, id)
	}
	return append(l, math.MaxInt)
}

// lookAs compares what t reads.
func (w *world) lookAs(t int) {
	w.t.Helper()
	v := w.live[t].view
	if !v.joined() {
		w.fail("%d reads an edge without its nodes", t)
	}
	for _, id := range near(w.nodes) {
		n, ok := w.s.Node(t, id)
		if _, is := v.nodes[id]; ok != is || !record.Same(n, v.nodes[id]) {
			w.fail("Node(%d, %d): got %v, %t", t, id, n, ok)
		}
		scribble(n)
		w.wantIDs(w.s.Out(t, id), w.out(t, id), "Out(%d, %d)", t, id)
		w.wantIDs(w.s.In(t, id), w.in(t, id), "In(%d, %d)", t, id)
	}
	for _, id := range near(w.edges) {
		e, ok := w.s.Edge(t, id)
		if _, is := v.edges[id]; ok != is || !record.SameEdge(e, v.edges[id]) {
			w.fail("Edge(%d, %d): got %v, %t", t, id, e, ok)
		}
	}
	w.wantIDs(w.s.Nodes(t), slices.Sorted(maps.Keys(v.nodes)), "Nodes(%d)", t)
	w.wantIDs(w.s.Edges(t), slices.Sorted(maps.Keys(v.edges)), "Edges(%d)", t)
	for _, name := range []string{"a", "b", "c", "longname", "ab", "A", "", "a b", "verylongname", "\xff", "\x00"} {
		w.wantIDs(w.s.Label(t, name), w.label(t, name), "Label(%d, %q)", t, name)
	}
	w.lookRanges(t)
	nodes, edges, l, err := w.s.Pending(t)
	if nodes != w.nodes || edges != w.edges || err != api.OK {
		w.fail("Pending(%d): got %d, %d, %d, want %d, %d", t, nodes, edges, err, w.nodes, w.edges)
	}
	w.wantWrites(l, w.pending(t), "Pending")
}

// bounds returns values between which ranges are asked, in order.
func bounds() []api.Val {
	return []api.Val{
		{}, truth(false), truth(true), whole(math.MinInt), whole(0), whole(1), whole(2),
		number(negInf), number(negZero), number(0), number(1), number(posInf), number(nan),
		text(""), text("p"), text("pq"), text("~~~~~~~~~~~~"),
	}
}

// broken returns values that are not valid.
func broken() []api.Val {
	return []api.Val{
		{Kind: -1}, {Kind: 5}, {Kind: math.MaxInt}, {N: 1}, {B: true}, {T: "p"}, {F: negZero}, {F: 1},
		{Kind: api.Bool, N: 1}, {Kind: api.Int, N: 1, T: "p"}, {Kind: api.Int, F: negZero},
		{Kind: api.Real, F: math.Float64frombits(0x7ff8000000000001)}, {Kind: api.Real, F: 1, B: true},
		text("thirteenbytes"), text("\n"), text("\x7f"), text("\xff"), {Kind: api.Text, T: "p", N: 1},
	}
}

// lookRanges compares the ranges of t. If it is to be quick, these are others at each look.
func (w *world) lookRanges(t int) {
	w.t.Helper()
	all := bounds()
	for _, key := range []string{"k", "l", "longname", "a", "", "no key", "K"} {
		entries := w.entries(t, key)
		for i := range all {
			for k := range all {
				if w.quick && (i*len(all)+k+w.looks)%59 != 0 && i+k > 0 {
					continue
				}
				w.wantRange(t, key, all[i], all[k], entries)
			}
		}
		w.wantRange(t, key, all[0], all[len(all)-1], entries)
		bad := broken()
		for i, b := range bad {
			if w.quick && i != w.looks%len(bad) {
				continue
			}
			for _, ends := range [][2]api.Val{{b, all[len(all)-1]}, {all[0], b}, {b, b}} {
				w.wantIDs(w.s.Range(t, key, ends[0], ends[1]), nil, "Range(%d, %q, %v)", t, key, ends)
			}
		}
	}
}

func (w *world) wantRange(t int, key string, lo, hi api.Val, entries []api.Entry) {
	w.t.Helper()
	var l []int
	for _, x := range entries {
		if value.In(x.V, lo, hi) {
			l = append(l, x.ID)
		}
	}
	w.wantIDs(w.s.Range(t, key, lo, hi), l, "Range(%d, %q, %v, %v)", t, key, lo, hi)
}

// lookDead asks all functions of reading for a transaction that is not live.
func (w *world) lookDead(t int) {
	w.t.Helper()
	nodes, edges, l, err := w.s.Pending(t)
	if nodes != 0 || edges != 0 || len(l) != 0 || err != api.ErrState {
		w.fail("Pending(%d): got %d, %d, %v, %d", t, nodes, edges, l, err)
	}
	for _, id := range []int{-1, 0, 1, 2, w.nodes} {
		if n, ok := w.s.Node(t, id); ok || !reflect.ValueOf(n).IsZero() {
			w.fail("Node(%d, %d): got %v, %t", t, id, n, ok)
		}
		if e, ok := w.s.Edge(t, id); ok || e != (api.Edge{}) {
			w.fail("Edge(%d, %d): got %v, %t", t, id, e, ok)
		}
		w.wantIDs(w.s.Out(t, id), nil, "Out(%d, %d)", t, id)
		w.wantIDs(w.s.In(t, id), nil, "In(%d, %d)", t, id)
	}
	w.wantIDs(w.s.Nodes(t), nil, "Nodes(%d)", t)
	w.wantIDs(w.s.Edges(t), nil, "Edges(%d)", t)
	w.wantIDs(w.s.Label(t, "a"), nil, "Label(%d)", t)
	w.wantIDs(w.s.Range(t, "k", api.Val{}, text("~~~~~~~~~~~~")), nil, "Range(%d)", t)
}
