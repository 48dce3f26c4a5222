package record_test

import (
	"bytes"
	"math"
	"math/rand/v2"
	"slices"
	"strings"
	"testing"

	"ligature/api"
	"ligature/record"
)

func addNode(id int, n api.Node) api.Write { return api.Write{ID: id, N: n} }
func addEdge(id int, e api.Edge) api.Write { return api.Write{Edge: true, ID: id, E: e} }
func dropNode(id int) api.Write            { return api.Write{ID: id, Gone: true} }
func dropEdge(id int) api.Write            { return api.Write{Edge: true, ID: id, Gone: true} }

// wantEncoded asks for the bytes of valid arguments.
func wantEncoded(t *testing.T, a arguments, want []byte) {
	t.Helper()
	got, err := record.Encode(a.nodes, a.edges, a.l)
	if err != api.OK || !bytes.Equal(got, want) {
		t.Errorf("Encode(%d, %d, %+.400v) = % x, %v, want % x", a.nodes, a.edges, a.l, got, err, want)
	}
}

// wantErrArg asks for the rejection of arguments that are not valid.
func wantErrArg(t *testing.T, nodes, edges int, l ...api.Write) {
	t.Helper()
	got, err := record.Encode(nodes, edges, l)
	if err != api.ErrArg || len(got) != 0 {
		t.Errorf("Encode(%d, %d, %+.400v) = % x, %v, want ErrArg", nodes, edges, l, got, err)
	}
	if plainArguments(nodes, edges, l) {
		t.Errorf("the test itself takes %d, %d, %+.400v to be valid", nodes, edges, l)
	}
}

// wantOK asks for the encoding of valid arguments as the tests themselves write it.
func wantOK(t *testing.T, nodes, edges int, l ...api.Write) {
	t.Helper()
	wantEncoded(t, arguments{nodes, edges, l}, plainEncode(nodes, edges, l))
	if !plainArguments(nodes, edges, l) {
		t.Errorf("the test itself takes %d, %d, %+.400v not to be valid", nodes, edges, l)
	}
}

// P10.2: the numbers

func TestEncodeExample(t *testing.T) {
	wantEncoded(t, arguments{}, []byte{0, 0, 0})
	wantEncoded(t, arguments{l: []api.Write{}}, []byte{0, 0, 0})
	wantEncoded(t, arguments{l: make([]api.Write, 0, 5)}, []byte{0, 0, 0})
}

func TestEncodeNumbers(t *testing.T) {
	numbers := []int{math.MinInt, -1 << 32, -256, -33, -25, -2, -1, math.MaxInt, 1 << 32, 1<<32 + 1, 256, 257}
	for n := range 40 {
		numbers = append(numbers, n)
	}
	for _, nodes := range numbers {
		for _, edges := range numbers {
			if nodes >= 0 && nodes <= api.MaxNodes && edges >= 0 && edges <= api.MaxEdges {
				wantEncoded(t, arguments{nodes, edges, nil}, []byte{byte(2 * nodes), byte(2 * edges), 0})
			} else {
				wantErrArg(t, nodes, edges)
			}
		}
	}
}

func TestEncodeNumbersBesideElements(t *testing.T) {
	for _, n := range []int{math.MinInt, -1, api.MaxNodes + 1, api.MaxEdges + 1, math.MaxInt} {
		wantErrArg(t, n, 1, dropNode(1))
		wantErrArg(t, n, 1, dropEdge(1))
	}
	for _, n := range []int{math.MinInt, -1, api.MaxEdges + 1, math.MaxInt} {
		wantErrArg(t, 1, n, dropNode(1))
		wantErrArg(t, 1, n, dropEdge(1))
	}
	wantOK(t, api.MaxNodes, api.MaxEdges, dropNode(1), dropEdge(1))
}

// P10.2: when an element is valid

func TestEncodeIDs(t *testing.T) {
	ids := []int{math.MinInt, -1 << 32, -2, -1, 1 << 32, 1<<32 + 1, 256, 257, math.MaxInt}
	for id := range api.MaxEdges + 3 {
		ids = append(ids, id)
	}
	for _, n := range [][2]int{{0, 0}, {0, 5}, {5, 0}, {1, 1}, {3, 7}, {7, 3}, {23, 31}, {api.MaxNodes, api.MaxEdges}} {
		nodes, edges := n[0], n[1]
		for _, id := range ids {
			for _, w := range []api.Write{addNode(id, labelled("a")), dropNode(id)} {
				if id >= 1 && id <= nodes {
					wantOK(t, nodes, edges, w)
				} else {
					wantErrArg(t, nodes, edges, w)
				}
			}
			for _, w := range []api.Write{addEdge(id, edge(1, 2, "t", 1)), dropEdge(id)} {
				if id >= 1 && id <= edges {
					wantOK(t, nodes, edges, w)
				} else {
					wantErrArg(t, nodes, edges, w)
				}
			}
		}
	}
}

func TestEncodeTakesEdgesOfNodesBeyondTheNumber(t *testing.T) {
	// An edge is valid by P10.1, whose ends have nothing to do with the number of nodes.
	wantOK(t, 0, 1, addEdge(1, edge(api.MaxNodes, 1, "t", 1)))
	wantOK(t, 2, 1, addEdge(1, edge(3, 3, "t", 1)))
	wantErrArg(t, api.MaxNodes, 1, addEdge(1, edge(api.MaxNodes+1, 1, "t", 1)))
}

func TestEncodeNodes(t *testing.T) {
	for _, n := range differentNodes() {
		if record.IsNode(n) {
			wantOK(t, 2, 1, addNode(2, n))
		} else {
			wantErrArg(t, 2, 1, addNode(2, n))
		}
		if record.Same(n, api.Node{}) {
			continue
		}
		wantErrArg(t, 2, 2, api.Write{ID: 1, Gone: true, N: n})
		wantErrArg(t, 2, 2, api.Write{Edge: true, ID: 1, Gone: true, N: n})
		wantErrArg(t, 2, 2, api.Write{Edge: true, ID: 1, E: edge(1, 2, "t", 1), N: n})
	}
}

func TestEncodeBadNodes(t *testing.T) {
	for _, bad := range badNames() {
		wantErrArg(t, 1, 1, addNode(1, labelled(bad)))
		wantErrArg(t, 1, 1, addNode(1, keyed(bad)))
		wantErrArg(t, 1, 1, addEdge(1, edge(1, 1, bad, 1)))
	}
	for _, v := range badVals() {
		for _, key := range []string{"a", "b", "c"} {
			wantErrArg(t, 1, 1, addNode(1, withVal(key, v)))
		}
	}
	wantErrArg(t, 1, 1, addNode(1, labelled("a", "b", "c", "d")))
	wantErrArg(t, 1, 1, addNode(1, keyed("a", "b", "c", "d")))
	wantErrArg(t, 1, 1, addNode(1, labelled("b", "a")))
	wantErrArg(t, 1, 1, addNode(1, keyed("a", "a")))
}

func TestEncodeEdges(t *testing.T) {
	for _, e := range append(differentEdges(), api.Edge{W: math.NaN()}, edge(1, 2, "t", math.NaN())) {
		if record.IsEdge(e) {
			wantOK(t, 1, 2, addEdge(2, e))
		} else {
			wantErrArg(t, 1, 2, addEdge(2, e))
		}
		if record.SameEdge(e, api.Edge{}) {
			continue
		}
		wantErrArg(t, 2, 2, api.Write{Edge: true, ID: 1, Gone: true, E: e})
		wantErrArg(t, 2, 2, api.Write{ID: 1, Gone: true, E: e})
		wantErrArg(t, 2, 2, api.Write{ID: 1, N: labelled("a"), E: e})
		wantErrArg(t, 2, 2, api.Write{ID: 1, E: e})
	}
}

func TestEncodeWeights(t *testing.T) {
	for _, w := range goodWeights() {
		wantOK(t, 1, 1, addEdge(1, edge(1, 2, "t", w)))
	}
	for _, w := range badWeights() {
		wantErrArg(t, 1, 1, addEdge(1, edge(1, 2, "t", w)))
		wantErrArg(t, 1, 1, api.Write{Edge: true, ID: 1, Gone: true, E: api.Edge{W: w}})
		wantErrArg(t, 1, 1, api.Write{ID: 1, E: api.Edge{W: w}})
	}
}

func TestEncodeTakesEmptySlicesForNil(t *testing.T) {
	empty := api.Node{Labels: []string{}, Props: make([]api.Prop, 0, 4)}
	wantOK(t, 1, 1, addNode(1, empty))
	wantOK(t, 1, 1, api.Write{ID: 1, Gone: true, N: empty})
	wantOK(t, 1, 1, api.Write{Edge: true, ID: 1, Gone: true, N: empty})
	wantOK(t, 1, 1, api.Write{Edge: true, ID: 1, N: empty, E: edge(1, 1, "t", 0)})
}

// kindsOfElements has a valid element of every kind, all with the ID 1.
func kindsOfElements() []api.Write {
	return []api.Write{addNode(1, api.Node{}), addNode(1, withVal("b", text("x"))), dropNode(1), addEdge(1, edge(2, 1, "t", 1)), addEdge(1, edge(1, 1, "u", 0)), dropEdge(1)}
}

func TestEncodeTheSameElementTwice(t *testing.T) {
	between := []api.Write{addNode(2, api.Node{}), dropEdge(2), dropNode(3), addEdge(3, edge(1, 2, "t", 2))}
	for _, a := range kindsOfElements() {
		for _, b := range kindsOfElements() {
			for n := range between {
				for before := range n + 1 {
					l := slices.Concat(between[:before], []api.Write{a}, between[before:n], []api.Write{b}, between[n:])
					if a.Edge == b.Edge {
						wantErrArg(t, 3, 3, l...)
					} else {
						wantOK(t, 3, 3, l...)
					}
				}
			}
		}
	}
}

func TestEncodeTheSameElementTwiceForEveryID(t *testing.T) {
	for id := 1; id <= api.MaxNodes; id++ {
		wantErrArg(t, api.MaxNodes, api.MaxEdges, dropNode(id), dropNode(id))
		wantErrArg(t, api.MaxNodes, api.MaxEdges, dropNode(id), dropEdge(id), addNode(id, api.Node{}))
		wantOK(t, api.MaxNodes, api.MaxEdges, dropNode(id), dropEdge(id))
		wantOK(t, api.MaxNodes, api.MaxEdges, dropNode(id), dropNode(id%api.MaxNodes+1))
	}
	for id := 1; id <= api.MaxEdges; id++ {
		wantErrArg(t, api.MaxNodes, api.MaxEdges, dropEdge(id), dropEdge(id))
		wantErrArg(t, api.MaxNodes, api.MaxEdges, dropEdge(id), dropNode(1), addEdge(id, edge(1, 1, "t", 1)))
		wantOK(t, api.MaxNodes, api.MaxEdges, dropEdge(id), dropEdge(id%api.MaxEdges+1))
	}
}

// everyElement has all elements there can be, with what takes the most bytes in each.
func everyElement() []api.Write {
	var l []api.Write
	for id := 1; id <= api.MaxNodes; id++ {
		n := holding(prop("abcdefgx", text("twelve bytes")), prop("abcdefgy", whole(math.MinInt)), prop("abcdefgz", number(nan)))
		n.Labels = []string{"zzzzzzzx", "zzzzzzzy", "zzzzzzzz"}
		l = append(l, addNode(id, n))
	}
	for id := 1; id <= api.MaxEdges; id++ {
		l = append(l, addEdge(id, edge(api.MaxNodes, 1, "zzzzzzzz", math.MaxFloat64)))
	}
	return l
}

func TestEncodeEveryElementThereCanBe(t *testing.T) {
	l := everyElement()
	wantOK(t, api.MaxNodes, api.MaxEdges, l...)
	slices.Reverse(l)
	wantOK(t, api.MaxNodes, api.MaxEdges, l...)
	for _, more := range append(kindsOfElements(), dropNode(25), dropEdge(33), dropNode(0)) {
		wantErrArg(t, api.MaxNodes, api.MaxEdges, append(slices.Clone(l), more)...)
	}
}

func TestEncodeVeryManyElements(t *testing.T) {
	for _, n := range []int{57, 255, 256, 257, 1 << 16, 1 << 20} {
		wantErrArg(t, api.MaxNodes, api.MaxEdges, slices.Repeat([]api.Write{dropNode(1)}, n)...)
	}
}

func TestEncodeLooksAtEveryElement(t *testing.T) {
	good := []api.Write{addNode(1, labelled("a")), addEdge(1, edge(1, 2, "t", 1)), dropNode(2), dropEdge(2)}
	bad := []api.Write{addNode(0, api.Node{}), addNode(4, api.Node{}), addEdge(0, edge(1, 1, "t", 1)), addEdge(4, edge(1, 1, "t", 1)), dropNode(4), dropEdge(4), addEdge(3, api.Edge{}), addNode(3, labelled("A")), {ID: 3, Gone: true, N: labelled("a")}, {Edge: true, ID: 3, Gone: true, E: edge(1, 1, "t", 1)}}
	for place := range len(good) + 1 {
		for _, w := range bad {
			wantErrArg(t, 3, 3, slices.Insert(slices.Clone(good), place, w)...)
		}
		wantOK(t, 3, 3, slices.Insert(slices.Clone(good), place, addNode(3, api.Node{}))...)
	}
}

// P10.2: the bytes

func TestEncodeBytesOfNodes(t *testing.T) {
	for want, n := range map[string]api.Node{
		"\x00\x00":                                          {},
		"\x02\x02a\x00":                                     labelled("a"),
		"\x06\x02a\x10abcdefgh\x04bc\x00":                   labelled("a", "abcdefgh", "bc"),
		"\x00\x02\x02k\x02\x00":                             holding(prop("k", truth(false))),
		"\x00\x02\x02k\x02\x02":                             holding(prop("k", truth(true))),
		"\x00\x02\x02k\x04\x00":                             holding(prop("k", whole(0))),
		"\x00\x02\x02k\x04\x01":                             holding(prop("k", whole(-1))),
		"\x00\x02\x02k\x04\x80\x01":                         holding(prop("k", whole(64))),
		"\x00\x02\x02k\x06\x80\x00\x00\x00\x00\x00\x00\x00": holding(prop("k", number(0))),
		"\x00\x02\x02k\x06\x7f\xff\xff\xff\xff\xff\xff\xff": holding(prop("k", number(negZero))),
		"\x00\x02\x02k\x06\xbf\xf0\x00\x00\x00\x00\x00\x00": holding(prop("k", number(1))),
		"\x00\x02\x02k\x06\x40\x0f\xff\xff\xff\xff\xff\xff": holding(prop("k", number(-1))),
		"\x00\x02\x02k\x06\xff\xf8\x00\x00\x00\x00\x00\x00": holding(prop("k", number(nan))),
		"\x00\x02\x02k\x06\xff\xf0\x00\x00\x00\x00\x00\x00": holding(prop("k", number(posInf))),
		"\x00\x02\x02k\x06\x00\x0f\xff\xff\xff\xff\xff\xff": holding(prop("k", number(negInf))),
		"\x00\x02\x02k\x06\x80\x00\x00\x00\x00\x00\x00\x01": holding(prop("k", number(smallest))),
		"\x00\x02\x02k\x06\xff\xef\xff\xff\xff\xff\xff\xff": holding(prop("k", number(math.MaxFloat64))),
		"\x00\x02\x02k\x08\x00":                             holding(prop("k", text(""))),
		"\x00\x02\x02k\x08\x04x~":                           holding(prop("k", text("x~"))),
		"\x02\x04la\x04\x02k\x08\x00\x04kk\x02\x00":         {Labels: []string{"la"}, Props: []api.Prop{prop("k", text("")), prop("kk", truth(false))}},
	} {
		wantEncoded(t, arguments{2, 0, []api.Write{addNode(1, n)}}, []byte("\x04\x00\x02\x00\x02\x00"+want))
	}
}

func TestEncodeBytesOfEdges(t *testing.T) {
	for want, e := range map[string]api.Edge{
		"\x02\x04\x02t\xbf\xf0\x00\x00\x00\x00\x00\x00":        edge(1, 2, "t", 1),
		"\x04\x02\x02t\x80\x00\x00\x00\x00\x00\x00\x00":        edge(2, 1, "t", 0),
		"\x06\x06\x02t\x7f\xff\xff\xff\xff\xff\xff\xff":        edge(3, 3, "t", negZero),
		"\x30\x2e\x10abcdefgh\xff\xf0\x00\x00\x00\x00\x00\x00": edge(24, 23, "abcdefgh", posInf),
		"\x02\x30\x04zz\x80\x00\x00\x00\x00\x00\x00\x01":       edge(1, 24, "zz", smallest),
		"\x02\x02\x06abc\xff\xef\xff\xff\xff\xff\xff\xff":      edge(1, 1, "abc", math.MaxFloat64),
		"\x02\x02\x06abc\xc0\x04\x00\x00\x00\x00\x00\x00":      edge(1, 1, "abc", 2.5),
	} {
		wantEncoded(t, arguments{1, 32, []api.Write{addEdge(32, e)}}, []byte("\x02\x40\x02\x02\x40\x00"+want))
	}
}

func TestEncodeBytesOfWhatIsGone(t *testing.T) {
	wantEncoded(t, arguments{24, 0, []api.Write{dropNode(24)}}, []byte{48, 0, 2, 0, 48, 2})
	wantEncoded(t, arguments{0, 32, []api.Write{dropEdge(32)}}, []byte{0, 64, 2, 2, 64, 2})
	wantEncoded(t, arguments{1, 1, []api.Write{dropEdge(1), dropNode(1)}}, []byte{2, 2, 4, 2, 2, 2, 0, 2, 2})
}

func TestEncodeKeepsTheOrderOfElements(t *testing.T) {
	a, b, c := dropNode(2), addEdge(1, edge(1, 1, "t", 0)), addNode(1, api.Node{})
	bytesOf := map[int]string{0: "\x00\x04\x02", 1: "\x02\x02\x00\x02\x02\x02t\x80\x00\x00\x00\x00\x00\x00\x00", 2: "\x00\x02\x00\x00\x00"}
	for _, order := range [][3]int{{0, 1, 2}, {0, 2, 1}, {1, 0, 2}, {1, 2, 0}, {2, 0, 1}, {2, 1, 0}} {
		want := "\x04\x02\x06"
		var l []api.Write
		for _, i := range order {
			want += bytesOf[i]
			l = append(l, []api.Write{a, b, c}[i])
		}
		wantEncoded(t, arguments{2, 1, l}, []byte(want))
	}
}

func TestEncodeEveryValue(t *testing.T) {
	for _, v := range goodVals() {
		for _, key := range []string{"a", "b", "c"} {
			wantOK(t, 1, 0, addNode(1, withVal(key, v)))
		}
	}
}

func TestEncodeEveryName(t *testing.T) {
	for _, s := range goodNames() {
		wantOK(t, 1, 1, addNode(1, labelled(s)), addEdge(1, edge(1, 1, s, 1)))
		wantOK(t, 1, 1, addNode(1, keyed(s)))
		for _, other := range goodNames() {
			if s < other {
				wantOK(t, 1, 1, addNode(1, labelled(s, other)))
				wantOK(t, 1, 1, addNode(1, keyed(s, other)))
			}
		}
	}
}

// A maker makes arguments at random, by a script that is the same at each run.
type maker struct{ r *rand.Rand }

func newMaker(seed uint64) *maker { return &maker{rand.New(rand.NewPCG(seed, 10))} }

func pick[T any](m *maker, l []T) T { return l[m.r.IntN(len(l))] }

// names returns at most three names in ascending order.
func (m *maker) names() []string {
	var l []string
	for range m.r.IntN(4) {
		l = append(l, pick(m, goodNames()))
	}
	slices.Sort(l)
	return slices.Compact(l)
}

func (m *maker) node() api.Node {
	n := labelled(m.names()...)
	for _, k := range m.names() {
		n.Props = append(n.Props, prop(k, pick(m, goodVals())))
	}
	return n
}

func (m *maker) edge() api.Edge {
	return edge(1+m.r.IntN(api.MaxNodes), 1+m.r.IntN(api.MaxNodes), pick(m, goodNames()), pick(m, goodWeights()))
}

// write makes an element of one ID.
func (m *maker) write(isEdge bool, id int) api.Write {
	w := api.Write{Edge: isEdge, ID: id, Gone: m.r.IntN(3) == 0}
	if !w.Gone && isEdge {
		w.E = m.edge()
	}
	if !w.Gone && !isEdge {
		w.N = m.node()
	}
	return w
}

// arguments makes valid ones, with few elements more often than with many.
func (m *maker) arguments() arguments {
	a := arguments{nodes: m.r.IntN(api.MaxNodes + 1), edges: m.r.IntN(api.MaxEdges + 1)}
	rare := 1 + m.r.IntN(12)
	for id := 1; id <= a.nodes; id++ {
		if m.r.IntN(rare) == 0 {
			a.l = append(a.l, m.write(false, id))
		}
	}
	for id := 1; id <= a.edges; id++ {
		if m.r.IntN(rare) == 0 {
			a.l = append(a.l, m.write(true, id))
		}
	}
	m.r.Shuffle(len(a.l), func(i, k int) { a.l[i], a.l[k] = a.l[k], a.l[i] })
	return a
}

// spoil changes one thing, so that the arguments may not be valid any more.
func (m *maker) spoil(a arguments) arguments {
	a.l = slices.Clone(a.l)
	if len(a.l) == 0 || m.r.IntN(8) == 0 {
		a.nodes, a.edges = pick(m, []int{-1, 0, a.nodes, 24, 25}), pick(m, []int{-1, 0, a.edges, 32, 33})
		return a
	}
	w := &a.l[m.r.IntN(len(a.l))]
	w.N = api.Node{Labels: slices.Clone(w.N.Labels), Props: slices.Clone(w.N.Props)}
	switch m.r.IntN(10) {
	case 0:
		w.ID = pick(m, []int{-1, 0, 1, a.nodes, a.edges, a.nodes + 1, a.edges + 1})
	case 1:
		w.Gone = !w.Gone
	case 2:
		w.Edge = !w.Edge
	case 3:
		w.N.Labels = append(w.N.Labels, pick(m, append(badNames(), goodNames()...)))
	case 4:
		w.N.Props = append(w.N.Props, prop(pick(m, append(badNames(), goodNames()...)), pick(m, append(goodVals(), badVals()...))))
	case 5:
		if len(w.N.Props) > 0 {
			w.N.Props[m.r.IntN(len(w.N.Props))].V = pick(m, badVals())
		}
	case 6:
		w.E.W = pick(m, append(goodWeights(), badWeights()...))
	case 7:
		w.E.From, w.E.To = m.r.IntN(27)-1, m.r.IntN(27)-1
	case 8:
		w.E.Type = pick(m, append(badNames(), goodNames()...))
	case 9:
		a.l = append(a.l, m.write(m.r.IntN(2) == 0, 1+m.r.IntN(33)))
	}
	return a
}

func TestEncodeOfScripts(t *testing.T) {
	m := newMaker(1)
	for range 4000 {
		a := m.arguments()
		wantOK(t, a.nodes, a.edges, a.l...)
	}
}

func TestEncodeOfSpoiledScripts(t *testing.T) {
	m := newMaker(2)
	var taken, rejected int
	for range 12000 {
		a := m.spoil(m.arguments())
		if plainArguments(a.nodes, a.edges, a.l) {
			taken++
			wantOK(t, a.nodes, a.edges, a.l...)
		} else {
			rejected++
			wantErrArg(t, a.nodes, a.edges, a.l...)
		}
	}
	if taken < 2000 || rejected < 2000 {
		t.Errorf("the scripts have %d valid arguments and %d others", taken, rejected)
	}
}

// What holds everywhere

// deepCopy shares no memory with the elements, and has no unused capacity.
func deepCopy(l []api.Write) []api.Write {
	out := slices.Clone(l)
	for i, w := range out {
		out[i].N = api.Node{Labels: slices.Clone(w.N.Labels), Props: slices.Clone(w.N.Props)}
		for k, s := range w.N.Labels {
			out[i].N.Labels[k] = strings.Clone(s)
		}
	}
	return out
}

// roomy has the same elements in slices with unused capacity, which is filled with other ones.
func roomy(l []api.Write) []api.Write {
	out := append(slices.Clone(l), dropNode(77), dropEdge(78))
	for i, w := range out {
		labels := append(slices.Clone(w.N.Labels), "unused", "room")
		props := append(slices.Clone(w.N.Props), prop("unused", whole(79)), prop("room", text("room")))
		out[i].N = api.Node{Labels: labels[:len(w.N.Labels)], Props: props[:len(w.N.Props)]}
	}
	return out[:len(l)]
}

func TestEncodeNeitherModifiesNorRetainsItsArguments(t *testing.T) {
	m := newMaker(3)
	for range 300 {
		a := m.arguments()
		l := roomy(a.l)
		before := deepCopy(l[:len(l)+2])
		got, _ := record.Encode(a.nodes, a.edges, l)
		want := slices.Clone(got)
		if !slices.EqualFunc(l[:len(l)+2], before, identicalWrite) {
			t.Fatalf("%+v has become %+v", before, l[:len(l)+2])
		}
		for i, w := range l {
			if labels := w.N.Labels[len(w.N.Labels) : len(w.N.Labels)+2]; !slices.Equal(labels, []string{"unused", "room"}) {
				t.Fatalf("element %d: the unused labels are %q", i, labels)
			}
			if props := w.N.Props[len(w.N.Props) : len(w.N.Props)+2]; !slices.Equal(props, []api.Prop{prop("unused", whole(79)), prop("room", text("room"))}) {
				t.Fatalf("element %d: the unused properties are %v", i, props)
			}
			clear(w.N.Labels)
			clear(w.N.Props)
		}
		clear(l)
		if !bytes.Equal(got, want) {
			t.Fatalf("% x has become % x", want, got)
		}
	}
}

func TestEncodeResultsAreNew(t *testing.T) {
	m := newMaker(4)
	for range 300 {
		a := m.arguments()
		first, _ := record.Encode(a.nodes, a.edges, a.l)
		second, _ := record.Encode(a.nodes, a.edges, a.l)
		want := plainEncode(a.nodes, a.edges, a.l)
		for i := range first[:cap(first)] {
			first[:cap(first)][i] = 0xaa
		}
		if !bytes.Equal(second, want) {
			t.Fatalf("% x has become % x", want, second)
		}
		wantEncoded(t, a, want)
	}
}

func TestAsksDoNotModifyNodes(t *testing.T) {
	m := newMaker(5)
	for range 300 {
		w := m.write(false, 1)
		l := roomy([]api.Write{w})
		want := deepCopy(l[:3])
		record.IsNode(l[0].N)
		record.Same(l[0].N, l[0].N)
		record.Get(l[0].N, "a")
		record.Has(l[0].N, "a")
		if !slices.EqualFunc(l[:3], want, identicalWrite) {
			t.Fatalf("%+v has become %+v", want, l[:3])
		}
	}
}
