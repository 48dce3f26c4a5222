package store_test

import (
	"fmt"
	"maps"
	"math"
	"math/rand/v2"
	"slices"
	"testing"

	"ligature/api"
)

// P11.1 to P11.6: long and short scripts of calls, with all compared after each one.

// contents returns nodes of which any two have something in common with others, and two that are not
// valid.
func contents() []api.Node {
	return []api.Node{
		{}, labels("a"), labels("b"), labels("a", "b"), labels("a", "b", "c"), labels("longname"),
		valued("k", whole(0)), valued("k", whole(1)), valued("k", number(negZero)), valued("k", number(0)),
		valued("k", number(nan)), with(labels("a"), "k", whole(1)), with(labels("b"), "k", text("p")),
		with(valued("k", whole(1)), "l", whole(1)), with(valued("k", whole(2)), "l", number(nan)),
		with(with(with(labels("a", "c"), "k", truth(false)), "l", truth(true)), "longname", text("pq")),
		labels("A"), valued("k", api.Val{}),
	}
}

// edgeOf returns an edge between two nodes, of which few are not valid.
func edgeOf(from, to, kind int) api.Edge {
	weights := []float64{1, 0, negZero, posInf, math.SmallestNonzeroFloat64, 2.5, math.MaxFloat64, -1}
	return api.Edge{From: from, To: to, Type: []string{"t", "u", "longtype"}[kind%3], W: weights[kind%8]}
}

// source gives numbers to choose by.
type source interface{ below(n int) int }

type seeded struct{ *rand.Rand }

func (s seeded) below(n int) int { return s.IntN(n) }

// bytes is a source of a fuzz test. It gives 0 when it has come to its end.
type bytes struct{ l []byte }

func (b *bytes) below(n int) int {
	if len(b.l) == 0 {
		return 0
	}
	x := int(b.l[0])
	b.l = b.l[1:]
	return x % n
}

// someone returns a transaction, which is live most of the time.
func (w *world) someone(s source) int {
	l := slices.Sorted(maps.Keys(w.live))
	if len(l) == 0 || s.below(25) == 24 {
		return []int{0, -1, w.begun, w.begun + 1, 1, math.MaxInt}[s.below(6)]
	}
	return l[s.below(len(l))]
}

// some returns an ID, which is assigned most of the time and often one that there is.
func some[T any](s source, there map[int]T, assigned int) int {
	l := slices.Sorted(maps.Keys(there))
	if len(l) > 0 && s.below(8) > 0 {
		return l[s.below(len(l))]
	}
	return s.below(assigned+3) - 1
}

// step makes one call.
func (w *world) step(s source) {
	w.t.Helper()
	if len(w.live) == 0 && s.below(6) > 0 {
		w.tryBegin()
		return
	}
	node := contents()
	a := w.someone(s)
	view := w.now
	if x := w.live[a]; x != nil {
		view = x.view
	}
	switch k := s.below(40); {
	case k < 5:
		w.tryBegin()
	case k < 8:
		w.commit(a)
	case k < 9:
		w.abort(a)
	case k < 13:
		w.addNode(a, node[s.below(len(node))])
	case k < 21:
		w.setNode(a, some(s, view.nodes, w.nodes), node[s.below(len(node))])
	case k < 24:
		w.dropNode(a, some(s, view.nodes, w.nodes))
	case k < 31:
		w.addEdge(a, edgeOf(some(s, view.nodes, w.nodes), some(s, view.nodes, w.nodes), s.below(24)))
	case k < 34:
		w.dropEdge(a, some(s, view.edges, w.edges))
	case k < 38:
		w.vacuum()
	case k < 39:
		w.drain()
	default:
		w.loads(s)
	}
}

// loads ends what is live, most of the time, and loads something.
func (w *world) loads(s source) {
	w.t.Helper()
	if s.below(4) > 0 {
		for _, n := range slices.Sorted(maps.Keys(w.live)) {
			if s.below(2) == 0 {
				w.commit(n)
			} else {
				w.abort(n)
			}
		}
	}
	nodes, edges := w.nodes+s.below(3)-1, w.edges+s.below(3)-1
	if s.below(6) == 0 {
		nodes, edges = s.below(api.MaxNodes+3)-1, s.below(api.MaxEdges+3)-1
	}
	contents := contents()
	var l []api.Write
	for range s.below(7) {
		switch s.below(4) {
		case 0:
			l = append(l, put(1+s.below(max(nodes, 1)), contents[s.below(len(contents)-2)]))
		case 1:
			l = append(l, cut(1+s.below(max(nodes, 1))))
		case 2:
			e := edgeOf(1+s.below(max(nodes, 1)), 1+s.below(max(nodes, 1)), s.below(7))
			id := 1 + s.below(max(edges, 1))
			if old, ok := w.now.edges[id]; ok && s.below(3) > 0 {
				e.From, e.To = old.From, old.To
			}
			l = append(l, putEdge(id, e))
		case 3:
			l = append(l, cutEdge(1+s.below(max(edges, 1))))
		}
	}
	if s.below(8) > 0 {
		// Few lists of this kind would have each element once.
		l = once(l)
	}
	w.load(nodes, edges, l)
}

// once returns l without further writes of the same element.
func once(l []api.Write) []api.Write {
	var out []api.Write
	for _, y := range l {
		if !slices.ContainsFunc(out, func(x api.Write) bool { return x.Edge == y.Edge && x.ID == y.ID }) {
			out = append(out, y)
		}
	}
	return out
}

func TestLongScripts(t *testing.T) {
	const parts = 8
	seen := make([]map[string]int, parts)
	t.Run("all", func(t *testing.T) {
		for part := range parts {
			seen[part] = map[string]int{}
			t.Run(fmt.Sprint(part), func(t *testing.T) {
				t.Parallel()
				for seed := range uint64(30) {
					w := newWorld(t)
					w.quick = true
					s := seeded{rand.New(rand.NewPCG(seed, uint64(part)))}
					for range 150 {
						w.step(s)
					}
					w.finish()
					for x, n := range w.seen {
						seen[part][x] += n
					}
				}
			})
		}
	})
	for _, x := range outcomes() {
		n := 0
		for _, m := range seen {
			n += m[x]
		}
		if n < 10 {
			t.Errorf("%s was seen %d times", x, n)
		}
		t.Logf("%s: %d", x, n)
	}
}

// outcomes returns all calls that write, each with all that it may return.
func outcomes() []string {
	var l []string
	add := func(name string, errs ...api.Errno) {
		for _, err := range errs {
			l = append(l, fmt.Sprint(name, " ", err))
		}
	}
	add("Begin", api.OK, api.ErrFull)
	add("Commit", api.OK, api.ErrState)
	add("Abort", api.OK, api.ErrState)
	add("AddNode", api.OK, api.ErrState, api.ErrArg, api.ErrFull)
	add("SetNode", api.OK, api.ErrState, api.ErrArg, api.ErrNone, api.ErrClash)
	add("DropNode", api.OK, api.ErrState, api.ErrNone, api.ErrEdges, api.ErrClash)
	add("AddEdge", api.OK, api.ErrState, api.ErrArg, api.ErrNone, api.ErrFull, api.ErrClash)
	add("DropEdge", api.OK, api.ErrState, api.ErrNone, api.ErrClash)
	add("Load", api.OK, api.ErrState, api.ErrArg)
	return append(l, "Vacuum true", "Vacuum false")
}

// finish ends all transactions and leaves no old versions.
func (w *world) finish() {
	w.t.Helper()
	for i, n := range slices.Sorted(maps.Keys(w.live)) {
		if i%2 == 0 {
			w.commit(n)
		} else {
			w.abort(n)
		}
	}
	w.drain()
	w.slotted(w.least())
	// The same graph, without a history, takes as much.
	v := w.clone()
	v.slotted(w.least())
	v.images(w.nodes, w.edges, w.now.all()...)
}

// moves are the calls of which short scripts are made, by one of two transactions.
func moves() []func(w *world, t int) {
	return []func(w *world, t int){
		func(w *world, t int) { w.setNode(t, 1, with(labels("b"), "k", whole(1))) },
		func(w *world, t int) { w.setNode(t, 1, labels("a")) },
		func(w *world, t int) { w.dropNode(t, 2) },
		func(w *world, t int) { w.addEdge(t, edge(1, 2)) },
		func(w *world, t int) { w.dropEdge(t, 1) },
		func(w *world, t int) { w.commit(t) },
		func(w *world, t int) { w.abort(t) },
	}
}

// small returns a world with two nodes and an edge, and two live transactions.
func small(t *testing.T) (w *world, a, b int) {
	w = newWorld(t)
	w.quick, w.blind = true, true
	w.did(w.load(2, 1, []api.Write{put(1, with(labels("a"), "k", whole(0))), put(2, labels("b")), putEdge(1, edge(1, 2))}))
	return w, w.begin(), w.begin()
}

func TestShortScripts(t *testing.T) {
	const steps = 4
	all := moves()
	choices := 2 * len(all)
	for first := range choices {
		t.Run(fmt.Sprint(first), func(t *testing.T) {
			t.Parallel()
			scripts := 1
			for range steps - 1 {
				scripts *= choices
			}
			for n := range scripts {
				w, a, b := small(t)
				n = n*choices + first
				for range steps {
					c := n % choices
					n /= choices
					all[c/2](w, []int{a, b}[c%2])
				}
				w.blind = false
				w.look()
				w.blind = true
				w.drain()
				w.commit(a)
				w.commit(b)
				w.drain()
				w.blind = false
				w.begin()
				w.slotted(w.least())
			}
		})
	}
}

func FuzzScripts(f *testing.F) {
	for seed := range uint64(20) {
		r := rand.New(rand.NewPCG(seed, 11))
		b := make([]byte, 60*int(seed))
		for i := range b {
			b[i] = byte(r.UintN(256))
		}
		f.Add(b)
	}
	f.Fuzz(func(t *testing.T, b []byte) {
		w := newWorld(t)
		w.quick = true
		s := &bytes{b[:min(len(b), 1000)]}
		for len(s.l) > 0 {
			w.step(s)
		}
		w.finish()
	})
}
