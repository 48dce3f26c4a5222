package shape_test

import (
	"math"
	"math/rand/v2"
	"slices"
	"strings"
	"testing"

	"ligature/api"
	"ligature/shape"
)

// valid has a valid pattern of so many nodes and edges, all of them with every field.
func valid(nodes, edges int) api.Pattern {
	var p api.Pattern
	for i := range nodes {
		p.Nodes = append(p.Nodes, api.PNode{Label: goodNames()[i%18], Key: goodNames()[(i+1)%18], Lo: whole(i), Hi: text("z")})
	}
	for i := range edges {
		p.Edges = append(p.Edges, api.PEdge{From: i % max(nodes, 1), To: (i + 1) % max(nodes, 1), Type: goodNames()[(i+2)%18], Either: i%2 == 0})
	}
	return p
}

func wantIs(t *testing.T, p api.Pattern, want bool) {
	t.Helper()
	if got := shape.Is(p); got != want {
		t.Errorf("Is(%s) = %v", short(p), got)
	}
}

// P12.1: the numbers of nodes and edges

func TestIsOfNumbers(t *testing.T) {
	few := []int{0, 1, 2, 3, 4, 5, 6, 7, 8, 9, 255, 256, 257, 258, 260, 1<<16 + 1}
	for _, nodes := range few {
		for _, edges := range few {
			wantIs(t, valid(nodes, edges), nodes >= 1 && nodes <= api.MaxPNodes && edges <= api.MaxPEdges)
			// Nodes and edges that ask for nothing are counted like all others.
			bare := api.Pattern{Nodes: make([]api.PNode, nodes), Edges: make([]api.PEdge, edges)}
			wantIs(t, bare, nodes >= 1 && nodes <= api.MaxPNodes && edges <= api.MaxPEdges)
		}
	}
}

func TestIsOfNilAndEmpty(t *testing.T) {
	wantIs(t, api.Pattern{}, false)
	wantIs(t, api.Pattern{Nodes: []api.PNode{}, Edges: []api.PEdge{}}, false)
	wantIs(t, api.Pattern{Nodes: make([]api.PNode, 0, 4), Edges: make([]api.PEdge, 0, 4)}, false)
	wantIs(t, api.Pattern{Edges: make([]api.PEdge, 1)}, false)
	for nodes := 1; nodes <= api.MaxPNodes; nodes++ {
		for _, edges := range [][]api.PEdge{nil, {}, make([]api.PEdge, 0, 9)} {
			wantIs(t, api.Pattern{Nodes: valid(nodes, 0).Nodes, Edges: edges}, true)
		}
	}
}

func TestIsTakesNoElementBeyondTheLength(t *testing.T) {
	bad := api.PNode{Label: "A", Key: "K", Lo: api.Val{Kind: 9}, Hi: api.Val{Kind: 9}}
	p := valid(2, 2)
	p.Nodes = spaced(p.Nodes, bad, bad, bad, bad)
	p.Edges = spaced(p.Edges, api.PEdge{From: 9, To: -9, Type: "T"})
	wantIs(t, p, true)
	p.Nodes, p.Edges = p.Nodes[:1], p.Edges[:0]
	wantIs(t, p, true)
	p.Edges = p.Edges[:1]
	wantIs(t, p, false) // this edge leads to a node that stands in the unused part only
}

// P12.1: names

// named has, for each name in a pattern of so many nodes and edges, a way to set it.
func named(nodes, edges int) []func(p *api.Pattern, s string) {
	var l []func(p *api.Pattern, s string)
	for i := range nodes {
		l = append(l, func(p *api.Pattern, s string) { p.Nodes[i].Label = s }, func(p *api.Pattern, s string) { p.Nodes[i].Key = s })
	}
	for i := range edges {
		l = append(l, func(p *api.Pattern, s string) { p.Edges[i].Type = s })
	}
	return l
}

// wantNamed asks for Is with the name s at every place, in a short pattern and in a long one.
func wantNamed(t *testing.T, s string, want bool) {
	t.Helper()
	for _, size := range []int{1, 4} {
		for _, set := range named(size, size) {
			p := valid(size, size)
			set(&p, s)
			wantIs(t, p, want)
		}
	}
}

func TestIsOfNames(t *testing.T) {
	for _, s := range goodNames() {
		wantNamed(t, s, true)
	}
	for _, s := range badNames() {
		wantNamed(t, s, false)
	}
}

func TestIsOfEveryLengthOfAName(t *testing.T) {
	for n := 1; n < 40; n++ {
		wantNamed(t, strings.Repeat("q", n), n <= api.MaxName)
	}
}

func TestIsOfEveryByteOfAName(t *testing.T) {
	for c := range 256 {
		for n := 1; n <= api.MaxName; n++ {
			for i := range n {
				s := []byte(strings.Repeat("q", n))
				s[i] = byte(c)
				wantNamed(t, string(s), c >= 'a' && c <= 'z')
			}
		}
	}
}

func TestIsOfEmptyNames(t *testing.T) {
	for size := 1; size <= 4; size++ {
		for i := range size {
			p := valid(size, size)
			p.Nodes[i].Label = ""
			wantIs(t, p, true)
			p.Edges[i].Type = ""
			wantIs(t, p, true)
			p.Nodes[i].Key = ""
			wantIs(t, p, false) // the ends have values
			p.Nodes[i].Lo, p.Nodes[i].Hi = api.Val{}, api.Val{}
			wantIs(t, p, true)
		}
	}
}

func TestIsAllowsTheSameNameTwice(t *testing.T) {
	p := valid(4, 4)
	for i := range 4 {
		p.Nodes[i].Label, p.Nodes[i].Key, p.Edges[i].Type = "z", "z", "z"
	}
	wantIs(t, p, true)
	slices.Reverse(p.Nodes)
	wantIs(t, p, true)
	for i := range 4 {
		p.Nodes[i], p.Edges[i] = p.Nodes[0], p.Edges[0]
	}
	wantIs(t, p, true)
}

// P12.1: values

// wantEnds asks for Is with these ends at every node, in a short pattern and in a long one.
func wantEnds(t *testing.T, key string, lo, hi api.Val, want bool) {
	t.Helper()
	for _, size := range []int{1, 4} {
		for i := range size {
			p := valid(size, size)
			p.Nodes[i].Key, p.Nodes[i].Lo, p.Nodes[i].Hi = key, lo, hi
			wantIs(t, p, want)
		}
	}
}

func TestIsOfValidEnds(t *testing.T) {
	// Also those of two kinds, and those between which nothing lies.
	for i, lo := range rising() {
		for k, hi := range rising() {
			wantEnds(t, "k", lo, hi, true)
			wantEnds(t, "", lo, hi, i == 0 && k == 0)
		}
	}
}

func TestIsNotOfEndsThatAreNotValid(t *testing.T) {
	for _, bad := range badVals() {
		for _, key := range []string{"", "k", "kkkkkkkk"} {
			wantEnds(t, key, bad, bad, false)
			for _, v := range []api.Val{{}, whole(1), text("a"), number(nan)} {
				wantEnds(t, key, bad, v, false)
				wantEnds(t, key, v, bad, false)
			}
		}
	}
}

func TestIsOfEveryPairOfEnds(t *testing.T) {
	for _, lo := range mixedVals() {
		for _, hi := range mixedVals() {
			wantEnds(t, "k", lo, hi, plainVal(lo) && plainVal(hi))
			wantEnds(t, "", lo, hi, identicalVal(lo, api.Val{}) && identicalVal(hi, api.Val{}))
			wantEnds(t, "K", lo, hi, false)
		}
	}
}

func TestIsOfNullEnds(t *testing.T) {
	wantEnds(t, "", api.Val{}, api.Val{}, true)
	wantEnds(t, "k", api.Val{}, api.Val{}, true)
	wantEnds(t, "k", api.Val{}, whole(0), true)
	wantEnds(t, "k", whole(0), api.Val{}, true)
	for _, v := range []api.Val{truth(false), whole(0), number(0), text("")} {
		wantEnds(t, "", api.Val{}, v, false)
		wantEnds(t, "", v, api.Val{}, false)
		wantEnds(t, "", v, v, false)
	}
	// The Kind is that of Null, but a value is valid only if its other fields are zero.
	for _, v := range []api.Val{{B: true}, {N: 1}, {F: 1}, {F: negZero}, {F: nan}, {T: "a"}, {T: "\x00"}} {
		wantEnds(t, "", v, api.Val{}, false)
		wantEnds(t, "", api.Val{}, v, false)
		wantEnds(t, "k", v, api.Val{}, false)
		wantEnds(t, "k", api.Val{}, v, false)
	}
}

// P12.1: From and To

func TestIsOfIndexes(t *testing.T) {
	for nodes := 1; nodes <= api.MaxPNodes; nodes++ {
		for edges := 1; edges <= api.MaxPEdges; edges++ {
			for i := range edges {
				wantIndexes(t, nodes, edges, i)
			}
		}
	}
}

// wantIndexes asks for Is with many numbers as From and To of the edge i.
func wantIndexes(t *testing.T, nodes, edges, i int) {
	t.Helper()
	l := []int{math.MinInt, math.MinInt + 1, -1 << 32, -256, -255, -4, -2, -1, 0, 1, 2, 3, 4, 5, 8, 255, 256, 257, 1 << 16, 1 << 32, 1<<32 + 1, math.MaxInt - 1, math.MaxInt}
	for _, from := range l {
		for _, to := range l {
			for _, either := range []bool{false, true} {
				p := valid(nodes, edges)
				p.Edges[i].From, p.Edges[i].To, p.Edges[i].Either = from, to, either
				wantIs(t, p, from >= 0 && from < nodes && to >= 0 && to < nodes)
			}
		}
	}
}

func TestIsAllowsEveryGraph(t *testing.T) {
	// From a node to itself, twice between the same nodes, and nodes without edges.
	for a := range 256 {
		var p api.Pattern
		p.Nodes = valid(4, 0).Nodes
		for i := range 4 {
			p.Edges = append(p.Edges, api.PEdge{From: a >> (2 * i) & 3, To: a >> (6 - 2*i) & 3, Either: i%2 == 1})
		}
		wantIs(t, p, true)
	}
}

// P12.1: faults, alone and two at once

type fault struct {
	name string
	set  func(p *api.Pattern, i int)
}

// nodeFaults and edgeFaults have changes of which each, and any two together, make a pattern not
// valid that has been valid with values as ends.
func nodeFaults() []fault {
	return []fault{
		{"Label is no name", func(p *api.Pattern, i int) { p.Nodes[i].Label = "X" }},
		{"Label is too long", func(p *api.Pattern, i int) { p.Nodes[i].Label = "ninebytes" }},
		{"Key is no name", func(p *api.Pattern, i int) { p.Nodes[i].Key = "k " }},
		{"Key is too long", func(p *api.Pattern, i int) { p.Nodes[i].Key = "ninebytes" }},
		{"Key is empty, but the ends have values", func(p *api.Pattern, i int) { p.Nodes[i].Key = "" }},
		{"Key is empty, but Lo has a value", func(p *api.Pattern, i int) { p.Nodes[i].Key, p.Nodes[i].Hi = "", api.Val{} }},
		{"Lo is of no kind", func(p *api.Pattern, i int) { p.Nodes[i].Lo = api.Val{Kind: 5} }},
		{"Lo is Null with a number", func(p *api.Pattern, i int) { p.Nodes[i].Lo = api.Val{N: 1} }},
		{"Lo is too long", func(p *api.Pattern, i int) { p.Nodes[i].Lo = text("thirteen byte") }},
		{"Hi is of no kind", func(p *api.Pattern, i int) { p.Nodes[i].Hi = api.Val{Kind: -1} }},
		{"Hi is Null with -0", func(p *api.Pattern, i int) { p.Nodes[i].Hi = api.Val{F: negZero} }},
		{"Hi has another NaN", func(p *api.Pattern, i int) { p.Nodes[i].Hi = number(from(canonical | 1<<63)) }},
	}
}

func edgeFaults() []fault {
	return []fault{
		{"Type is no name", func(p *api.Pattern, i int) { p.Edges[i].Type = "t1" }},
		{"Type is too long", func(p *api.Pattern, i int) { p.Edges[i].Type = "ninebytes" }},
		{"From is negative", func(p *api.Pattern, i int) { p.Edges[i].From = -1 }},
		{"From is too great", func(p *api.Pattern, i int) { p.Edges[i].From = len(p.Nodes) }},
		{"To is negative", func(p *api.Pattern, i int) { p.Edges[i].To = -1 }},
		{"To is too great", func(p *api.Pattern, i int) { p.Edges[i].To = len(p.Nodes) }},
	}
}

// faultsOf has the faults of a pattern at its first and last node and edge, and those of the whole.
func faultsOf(nodes, edges int) []fault {
	l := []fault{
		{"no nodes", func(p *api.Pattern, _ int) { p.Nodes = p.Nodes[:0] }},
		{"a node too many", func(p *api.Pattern, _ int) { p.Nodes = append(p.Nodes, make([]api.PNode, 5)...)[:5] }},
		{"an edge too many", func(p *api.Pattern, _ int) { p.Edges = append(p.Edges, make([]api.PEdge, 5)...)[:5] }},
	}
	at := func(f fault, i int) fault {
		return fault{f.name + " at " + string(rune('0'+i)), func(p *api.Pattern, _ int) { f.set(p, i) }}
	}
	for _, f := range nodeFaults() {
		l = append(l, at(f, 0), at(f, nodes-1))
	}
	for _, f := range edgeFaults() {
		if edges > 0 {
			l = append(l, at(f, 0), at(f, edges-1))
		}
	}
	return l
}

func TestIsNotWithAnyFault(t *testing.T) {
	for nodes := 1; nodes <= api.MaxPNodes; nodes++ {
		for edges := 0; edges <= api.MaxPEdges; edges++ {
			for _, f := range faultsOf(nodes, edges) {
				p := valid(nodes, edges)
				wantIs(t, p, true)
				f.set(&p, 0)
				if shape.Is(p) || plainIs(p) {
					t.Errorf("%d nodes, %d edges, %s: Is(%+v) = true", nodes, edges, f.name, p)
				}
			}
		}
	}
}

func TestIsNotWithTwoFaults(t *testing.T) {
	for _, size := range []int{1, 2, 4} {
		l := faultsOf(size, size)
		for _, f := range l {
			for _, g := range l {
				if f.name == "no nodes" {
					continue // there is no node then for the other fault
				}
				p := valid(size, size)
				f.set(&p, 0)
				g.set(&p, 0)
				if shape.Is(p) || plainIs(p) {
					t.Errorf("%d, %s, %s: Is(%+v) = true", size, f.name, g.name, p)
				}
			}
		}
	}
}

func TestIsOfFaultsThatAreNone(t *testing.T) {
	// Each of these is close to a fault.
	for i, set := range []func(p *api.Pattern){
		func(p *api.Pattern) { p.Nodes[3] = api.PNode{} },
		func(p *api.Pattern) { p.Edges[3] = api.PEdge{} },
		func(p *api.Pattern) { p.Nodes[0] = api.PNode{Label: "eightlet"} },
		func(p *api.Pattern) { p.Nodes[0] = api.PNode{Key: "eightlet"} },
		func(p *api.Pattern) { p.Edges[0] = api.PEdge{Type: "eightlet", From: 3, To: 3} },
		func(p *api.Pattern) { p.Nodes[1].Lo, p.Nodes[1].Hi = whole(2), whole(1) },
		func(p *api.Pattern) { p.Nodes[1].Lo, p.Nodes[1].Hi = text("twelve bytes"), api.Val{} },
		func(p *api.Pattern) { p.Nodes[1].Lo, p.Nodes[1].Hi = number(nan), number(negZero) },
		func(p *api.Pattern) { p.Nodes[1].Lo, p.Nodes[1].Hi = number(negInf), number(posInf) },
		func(p *api.Pattern) { p.Edges[3].From, p.Edges[3].To = 0, 0 },
	} {
		p := valid(4, 4)
		set(&p)
		if !shape.Is(p) {
			t.Errorf("%d: Is(%+v) = false", i, p)
		}
	}
}

// P12.1: comparisons with the plain description

func TestIsOfAllShortPatterns(t *testing.T) {
	n, good := 0, 0
	for p := range shortPatterns {
		want := plainIs(p)
		if shape.Is(p) != want {
			t.Fatalf("Is(%+v) = %v", p, !want)
		}
		n++
		if want {
			good++
		}
	}
	// Of the nodes 10 are valid, and of the edges 2 with one node and 8 with two.
	if want := 10*(1+2) + 10*10*(1+8); good != want {
		t.Errorf("%d of %d are valid", good, n)
	}
}

func TestIsOfDrawnPatterns(t *testing.T) {
	r := rand.New(rand.NewPCG(12, 1))
	good := 0
	const all = 20_000
	for range all {
		p := drawn(r, 200).pattern()
		want := plainIs(p)
		if shape.Is(p) != want {
			t.Fatalf("Is(%s) = %v", short(p), !want)
		}
		if want {
			good++
		}
	}
	if good < all/10 || good > all*9/10 {
		t.Errorf("%d of %d are valid", good, all)
	}
}

// drawn is a source of n bytes that are the same in every run.
func drawn(r *rand.Rand, n int) *source {
	b := make([]byte, n)
	for i := range b {
		b[i] = byte(r.Uint32())
	}
	return &source{b}
}

// W1: long arguments

func TestIsOfLongArguments(t *testing.T) {
	wantIs(t, api.Pattern{Nodes: make([]api.PNode, 1<<20)}, false)
	wantIs(t, api.Pattern{Nodes: make([]api.PNode, 1), Edges: make([]api.PEdge, 1<<20)}, false)
	wantIs(t, api.Pattern{Edges: make([]api.PEdge, 1<<20)}, false)
	long := strings.Repeat("a", 1<<22)
	wantNamed(t, long, false)
	wantEnds(t, "k", text(long), whole(1), false)
	wantEnds(t, "", whole(1), text(long), false)
}

func FuzzIs(f *testing.F) {
	f.Add([]byte(nil))
	r := rand.New(rand.NewPCG(12, 2))
	for range 20 {
		f.Add(drawn(r, 100).b)
	}
	f.Fuzz(func(t *testing.T, b []byte) {
		p := (&source{b}).pattern()
		wantIs(t, p, plainIs(p))
	})
}
