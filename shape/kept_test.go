package shape_test

import (
	"math/rand/v2"
	"runtime"
	"slices"
	"strings"
	"sync"
	"testing"

	"ligature/api"
	"ligature/shape"
)

// P12.3: arguments are not modified

// roomy has the same pattern with unused capacity that holds elements.
func roomy(p api.Pattern) api.Pattern {
	x := api.PNode{Label: "spare", Key: "spare", Lo: number(nan), Hi: text("spare")}
	y := api.PEdge{From: 3, To: 2, Type: "spare", Either: true}
	return api.Pattern{Nodes: spaced(p.Nodes, x, x, x), Edges: spaced(p.Edges, y, y)}
}

// roomyNode has the same node with unused capacity that holds elements.
func roomyNode(n api.Node) api.Node {
	return api.Node{Labels: spaced(n.Labels, "spare", "more"), Props: spaced(n.Props, prop("spare", number(nan)), prop("more", text("spare")))}
}

func TestIsModifiesNothing(t *testing.T) {
	var l []api.Pattern
	for size := range 6 {
		l = append(l, valid(size, size), valid(size, 5-size))
	}
	for _, f := range faultsOf(2, 2) {
		p := valid(2, 2)
		f.set(&p, 0)
		l = append(l, p)
	}
	r := rand.New(rand.NewPCG(12, 6))
	for range 2000 {
		l = append(l, drawn(r, 150).pattern())
	}
	for _, p := range l {
		p = roomy(p)
		before := copiedPattern(p)
		shape.Is(p)
		if !identicalPattern(p, before) {
			t.Errorf("Is has made %s of %s", short(p), short(before))
		}
	}
}

func TestFitsModifiesNothing(t *testing.T) {
	r := rand.New(rand.NewPCG(12, 7))
	for i := range 5000 {
		s := drawn(r, 40)
		x, n := s.pnode(), roomyNode(s.node())
		if i%5 == 0 {
			// Labels and properties that do not ascend are not valid, and not put in order either.
			slices.Reverse(n.Labels)
			slices.Reverse(n.Props)
		}
		kept, before := copiedPNode(x), copiedNode(n)
		shape.Fits(x, n)
		if !identicalPNode(x, kept) || !identicalNode(n, before) {
			t.Errorf("Fits has made %+v of %+v, or %+v of %+v", x, kept, n, before)
		}
	}
}

func TestJoinsModifiesNothing(t *testing.T) {
	for _, a := range append(goodNames(), "") {
		for _, b := range goodNames() {
			x, e := api.PEdge{From: 1, To: 2, Type: a, Either: true}, edge(2, 1, b)
			kept, before := copiedPEdge(x), copiedEdge(e)
			shape.Joins(x, e, 1, 2)
			if x != kept || e != before {
				t.Errorf("Joins has made %+v of %+v, or %+v of %+v", x, kept, e, before)
			}
		}
	}
}

// P12.3: what the caller changes afterwards is seen by later calls, and only then

func TestIsOfAPatternChangedInPlace(t *testing.T) {
	p := roomy(valid(4, 4))
	q := copiedPattern(p)
	wantIs(t, p, true)
	for _, set := range named(4, 4) {
		before := copiedPattern(p)
		for _, s := range []string{"A", "changed", "", "ninebytes", "eightlet"} {
			set(&p, s)
			wantIs(t, p, plainIs(p))
			wantIs(t, q, true)
		}
		copy(p.Nodes, before.Nodes)
		copy(p.Edges, before.Edges)
		wantIs(t, p, true)
	}
	for i := range 4 {
		for _, v := range mixedVals() {
			p.Nodes[i].Lo = v
			wantIs(t, p, plainVal(v))
			p.Nodes[i].Lo, p.Nodes[i].Hi = whole(1), v
			wantIs(t, p, plainVal(v))
			p.Nodes[i].Hi = whole(1)
			wantIs(t, p, true)
		}
		for _, n := range []int{-1, 4, 3, 5, 0} {
			p.Edges[i].From = n
			wantIs(t, p, n >= 0 && n < 4)
			p.Edges[i].From, p.Edges[i].To = 0, n
			wantIs(t, p, n >= 0 && n < 4)
			p.Edges[i].To = 0
		}
		wantIs(t, q, true)
	}
}

func TestFitsOfANodeChangedInPlace(t *testing.T) {
	n := roomyNode(api.Node{Labels: []string{"a", "b"}, Props: []api.Prop{prop("k", whole(1)), prop("l", whole(2))}})
	again := copiedNode(n)
	asks := []api.PNode{{Label: "a"}, {Label: "b"}, {Label: "c"}, ranged("k", whole(1), whole(1)), ranged("l", whole(1), whole(2)), ranged("m", whole(1), whole(2)), {Label: "b", Key: "l", Lo: whole(2), Hi: text("x")}}
	all := func() {
		t.Helper()
		for i, x := range asks {
			wantFits(t, x, n, plainFits(x, n))
			wantFits(t, x, again, i != 2 && i != 5)
		}
	}
	all()
	for _, change := range []func(){
		func() { n.Labels[1] = "c" }, func() { n.Labels[0] = "b" }, func() { n.Labels[0], n.Labels[1] = "a", "b" },
		func() { n.Props[0].V = whole(2) }, func() { n.Props[1].V = text("y") }, func() { n.Props[1].V = whole(2) },
		func() { n.Props[1].Key = "m" }, func() { n.Props[0].Key = "l" }, func() { n.Props[0], n.Props[1] = prop("k", whole(1)), prop("l", whole(2)) },
	} {
		change()
		all()
	}
	if !identicalNode(n, again) {
		t.Errorf("%+v is not what it was, %+v", n, again)
	}
}

func TestResultsDoNotHangOnEarlierCalls(t *testing.T) {
	r := rand.New(rand.NewPCG(12, 8))
	var l []api.Pattern
	var want []bool
	for range 200 {
		p := drawn(r, 150).pattern()
		l, want = append(l, p), append(want, plainIs(p))
	}
	for range 2000 {
		i, s := r.IntN(len(l)), drawn(r, 40)
		wantIs(t, l[i], want[i])
		x, n := s.pnode(), s.node()
		wantFits(t, x, n, plainFits(x, n))
		wantPlainJoins(t, edge(s.pick(3)+1, s.pick(3)+1, "t"), s.pick(4), s.pick(4))
	}
}

func TestCallsOfSeveralGoroutines(t *testing.T) {
	good, bad := valid(4, 4), valid(4, 4)
	bad.Edges[3].To = 4
	x, n := ranged("k", whole(1), whole(3)), holders(whole(2))[2]
	wrong := make([]int, 8)
	var done sync.WaitGroup
	for i := range wrong {
		done.Go(func() {
			for range 2000 {
				e, seen := edge(2, 1, "t"), api.PEdge{Type: "t", Either: i%2 == 0}
				if !shape.Is(good) || shape.Is(bad) || !shape.Fits(x, n) || shape.Joins(seen, e, 1, 2) != seen.Either {
					wrong[i]++
				}
			}
		})
	}
	done.Wait()
	if slices.Max(wrong) > 0 {
		t.Errorf("wrong results in the goroutines: %v", wrong)
	}
}

// P12.3: arguments are not retained

const large = 16 << 20

// slice has the name s in memory of many bytes, all of which it keeps if it is kept.
func slice(s string) string {
	return strings.Repeat(s, large/len(s)+1)[:len(s)]
}

// heap is how much memory is in use.
func heap() int {
	runtime.GC()
	var m runtime.MemStats
	runtime.ReadMemStats(&m)
	return int(m.HeapAlloc)
}

func TestNothingIsRetained(t *testing.T) {
	ask := ranged("k", text("a"), text("b"))
	held := func() api.Node { return api.Node{Labels: []string{"a"}, Props: []api.Prop{prop("k", text("ab"))}} }
	fits := func(set func(x *api.PNode, n *api.Node)) func() bool {
		return func() bool {
			x, n := ask, held()
			x.Label = "a"
			set(&x, &n)
			return shape.Fits(x, n)
		}
	}
	is := func(set func(p *api.Pattern)) func() bool {
		return func() bool {
			p := valid(2, 2)
			set(&p)
			return shape.Is(p)
		}
	}
	for i, call := range []func() bool{
		is(func(p *api.Pattern) { p.Nodes[0].Label = slice("label") }),
		is(func(p *api.Pattern) { p.Nodes[1].Label = slice("label") }),
		is(func(p *api.Pattern) { p.Nodes[0].Key = slice("key") }),
		is(func(p *api.Pattern) { p.Nodes[1].Key = slice("key") }),
		is(func(p *api.Pattern) { p.Nodes[0].Lo = text(slice("low")) }),
		is(func(p *api.Pattern) { p.Nodes[1].Hi = text(slice("high")) }),
		is(func(p *api.Pattern) { p.Edges[0].Type = slice("type") }),
		is(func(p *api.Pattern) { p.Edges[1].Type = slice("type") }),
		is(func(p *api.Pattern) { p.Nodes = append(make([]api.PNode, 0, 1<<17), p.Nodes...) }),
		is(func(p *api.Pattern) { p.Edges = append(make([]api.PEdge, 0, 1<<19), p.Edges...) }),
		fits(func(x *api.PNode, n *api.Node) { x.Label = slice("a") }),
		fits(func(x *api.PNode, n *api.Node) { x.Key = slice("k") }),
		fits(func(x *api.PNode, n *api.Node) { x.Lo = text(slice("a")) }),
		fits(func(x *api.PNode, n *api.Node) { x.Hi = text(slice("b")) }),
		fits(func(x *api.PNode, n *api.Node) { n.Labels[0] = slice("a") }),
		fits(func(x *api.PNode, n *api.Node) { n.Props[0].Key = slice("k") }),
		fits(func(x *api.PNode, n *api.Node) { n.Props[0].V = text(slice("ab")) }),
		fits(func(x *api.PNode, n *api.Node) { n.Labels = append(make([]string, 0, 1<<20), "a") }),
		fits(func(x *api.PNode, n *api.Node) { n.Props = append(make([]api.Prop, 0, 1<<18), n.Props...) }),
		func() bool { return shape.Joins(api.PEdge{Type: slice("t")}, edge(2, 1, "t"), 2, 1) },
		func() bool { return shape.Joins(api.PEdge{Type: "t"}, edge(2, 1, slice("t")), 2, 1) },
	} {
		before := heap()
		if !call() {
			t.Errorf("%d: the call has returned false", i)
		}
		if more := heap() - before; more > large/2 {
			t.Errorf("%d: %d bytes more are in use", i, more)
		}
	}
}

func TestNothingIsRetainedOfWhatIsNotValid(t *testing.T) {
	long := func() string { return strings.Repeat("\xff", large) }
	for i, call := range []func() bool{
		func() bool { return shape.Is(api.Pattern{Nodes: []api.PNode{{Label: long()}}}) },
		func() bool { return shape.Is(api.Pattern{Nodes: []api.PNode{{Key: long()}}}) },
		func() bool { return shape.Is(api.Pattern{Nodes: []api.PNode{{Key: "k", Lo: text(long())}}}) },
		func() bool { return shape.Is(api.Pattern{Nodes: []api.PNode{{Key: "k", Hi: text(long())}}}) },
		func() bool {
			return shape.Is(api.Pattern{Nodes: valid(1, 0).Nodes, Edges: []api.PEdge{{Type: long()}}})
		},
		func() bool { return shape.Is(api.Pattern{Nodes: make([]api.PNode, 1<<17)}) },
		func() bool { return shape.Is(api.Pattern{Nodes: valid(1, 0).Nodes, Edges: make([]api.PEdge, 1<<19)}) },
		func() bool { return shape.Fits(api.PNode{Label: long()}, api.Node{}) },
		func() bool { return shape.Fits(ranged(long(), text("a"), text("b")), api.Node{}) },
		func() bool { return shape.Joins(api.PEdge{Type: long()}, edge(2, 1, "t"), 2, 1) },
	} {
		before := heap()
		if call() {
			t.Errorf("%d: the call has returned true", i)
		}
		if more := heap() - before; more > large/2 {
			t.Errorf("%d: %d bytes more are in use", i, more)
		}
	}
}
