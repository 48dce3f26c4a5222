package shape_test

import (
	"math"
	"math/rand/v2"
	"strings"
	"testing"

	"ligature/api"
	"ligature/shape"
)

func wantJoins(t *testing.T, x api.PEdge, e api.Edge, from, to int, want bool) {
	t.Helper()
	if got := shape.Joins(x, e, from, to); got != want {
		t.Errorf("Joins(%s, %s, %d, %d) = %v", short(x), short(e), from, to, got)
	}
}

func edge(from, to int, kind string) api.Edge {
	return api.Edge{From: from, To: to, Type: kind, W: 1}
}

// P12.2: Joins

func TestJoinsExample(t *testing.T) {
	wantJoins(t, api.PEdge{Either: true}, api.Edge{From: 2, To: 1}, 1, 2, true)
	wantJoins(t, api.PEdge{Either: true}, edge(2, 1, "t"), 1, 2, true)
}

func TestJoinsInItsDirection(t *testing.T) {
	e := edge(2, 1, "t")
	for _, kind := range []string{"", "t"} {
		wantJoins(t, api.PEdge{Type: kind}, e, 2, 1, true)
		wantJoins(t, api.PEdge{Type: kind}, e, 1, 2, false)
		wantJoins(t, api.PEdge{Type: kind, Either: true}, e, 2, 1, true)
		wantJoins(t, api.PEdge{Type: kind, Either: true}, e, 1, 2, true)
	}
	for _, kind := range []string{"u", "tt", "s", "ta", "a"} {
		for _, either := range []bool{false, true} {
			wantJoins(t, api.PEdge{Type: kind, Either: either}, e, 2, 1, false)
			wantJoins(t, api.PEdge{Type: kind, Either: either}, e, 1, 2, false)
		}
	}
}

func TestJoinsOfEveryPairOfTypes(t *testing.T) {
	for _, a := range append(goodNames(), "") {
		for _, b := range goodNames() {
			want := a == "" || a == b
			wantJoins(t, api.PEdge{Type: a}, edge(3, 7, b), 3, 7, want)
			wantJoins(t, api.PEdge{Type: a}, edge(3, 7, b), 7, 3, false)
			wantJoins(t, api.PEdge{Type: a, Either: true}, edge(3, 7, b), 3, 7, want)
			wantJoins(t, api.PEdge{Type: a, Either: true}, edge(3, 7, b), 7, 3, want)
			wantJoins(t, api.PEdge{Type: a, Either: true}, edge(3, 7, b), 3, 3, false)
		}
	}
}

func TestJoinsOfANodeWithItself(t *testing.T) {
	for _, kind := range []string{"", "t", "u"} {
		for _, either := range []bool{false, true} {
			x := api.PEdge{Type: kind, Either: either}
			wantJoins(t, x, edge(5, 5, "t"), 5, 5, kind != "u")
			for _, other := range []int{-5, 0, 1, 4, 6, 24} {
				wantJoins(t, x, edge(5, 5, "t"), 5, other, false)
				wantJoins(t, x, edge(5, 5, "t"), other, 5, false)
				wantJoins(t, x, edge(5, 5, "t"), other, other, false)
			}
			// Between a node and itself no edge leads that has two nodes.
			wantJoins(t, x, edge(5, 6, "t"), 5, 5, false)
			wantJoins(t, x, edge(5, 6, "t"), 6, 6, false)
			wantJoins(t, x, edge(6, 5, "t"), 5, 5, false)
		}
	}
}

func TestJoinsOfOtherNodes(t *testing.T) {
	strange := []int{math.MinInt, -24, -2, -1, 0, 3, 4, 23, 24, 25, 257, 258, 1<<32 + 1, 1<<32 + 2, math.MaxInt}
	for _, either := range []bool{false, true} {
		for _, e := range []api.Edge{edge(1, 2, "t"), edge(2, 1, "t"), edge(1, 1, "t"), edge(2, 2, "t")} {
			for _, a := range strange {
				for _, known := range []int{1, 2} {
					wantJoins(t, api.PEdge{Either: either}, e, a, known, false)
					wantJoins(t, api.PEdge{Either: either}, e, known, a, false)
				}
				for _, b := range strange {
					wantJoins(t, api.PEdge{Either: either}, e, a, b, false)
					wantJoins(t, api.PEdge{Type: "t", Either: either}, e, a, b, false)
				}
			}
		}
	}
}

func TestJoinsOfAllNodes(t *testing.T) {
	for from := 1; from <= api.MaxNodes; from++ {
		for to := 1; to <= api.MaxNodes; to++ {
			e := edge(from, to, "t")
			for a := range api.MaxNodes + 2 {
				for b := range api.MaxNodes + 2 {
					there, back := a == from && b == to, a == to && b == from
					wantJoins(t, api.PEdge{}, e, a, b, there)
					wantJoins(t, api.PEdge{Either: true}, e, a, b, there || back)
				}
			}
		}
	}
}

func TestJoinsIgnoresTheNodesOfThePattern(t *testing.T) {
	// From and To of a pattern edge are indexes, and from and to are nodes of the graph.
	for from := range 4 {
		for to := range 4 {
			for _, either := range []bool{false, true} {
				for _, kind := range []string{"", "t", "u"} {
					x := api.PEdge{From: from, To: to, Type: kind, Either: either}
					wantJoins(t, x, edge(2, 1, "t"), 2, 1, kind != "u")
					wantJoins(t, x, edge(2, 1, "t"), 1, 2, kind != "u" && either)
					wantJoins(t, x, edge(2, 1, "t"), from+3, to+3, false)
				}
			}
		}
	}
}

func TestJoinsIgnoresTheWeight(t *testing.T) {
	for _, w := range []float64{0, smallest, 1, 2.5, math.MaxFloat64, posInf, negZero, -1, negInf, nan, math.NaN()} {
		e := api.Edge{From: 2, To: 1, Type: "t", W: w}
		for _, kind := range []string{"", "t", "u"} {
			wantJoins(t, api.PEdge{Type: kind}, e, 2, 1, kind != "u")
			wantJoins(t, api.PEdge{Type: kind}, e, 1, 2, false)
			wantJoins(t, api.PEdge{Type: kind, Either: true}, e, 1, 2, kind != "u")
		}
	}
}

func TestJoinsOfAllShortEdges(t *testing.T) {
	for from := 1; from < 4; from++ {
		for to := 1; to < 4; to++ {
			for _, kind := range []string{"t", "tt", "u"} {
				for a := range 5 {
					for b := range 5 {
						wantPlainJoins(t, edge(from, to, kind), a, b)
					}
				}
			}
		}
	}
}

// wantPlainJoins compares Joins with the plain description, for pattern edges of several types.
func wantPlainJoins(t *testing.T, e api.Edge, from, to int) {
	t.Helper()
	for _, kind := range []string{"", "t", "tt", "u", "v"} {
		for _, either := range []bool{false, true} {
			for i := range 4 {
				x := api.PEdge{From: i & 1, To: i >> 1, Type: kind, Either: either}
				wantJoins(t, x, e, from, to, plainJoins(x, e, from, to))
			}
		}
	}
}

// W1: for arguments that are not valid the result is not specified, but there is one.

func TestJoinsOfArgumentsThatAreNotValid(t *testing.T) {
	long := strings.Repeat("\xff", 1<<20)
	for _, kind := range append(badNames(), "", long) {
		for _, n := range []int{math.MinInt, -1, 0, 25, math.MaxInt} {
			for _, either := range []bool{false, true} {
				x := api.PEdge{From: n, To: -n, Type: kind, Either: either}
				shape.Joins(x, api.Edge{From: n, To: n, Type: kind, W: math.NaN()}, n, n)
				shape.Joins(x, api.Edge{From: -n, To: n, Type: long + "a", W: -1}, n, -n)
			}
		}
	}
}

func FuzzJoins(f *testing.F) {
	f.Add([]byte(nil))
	r := rand.New(rand.NewPCG(12, 5))
	for range 20 {
		f.Add(drawn(r, 12).b)
	}
	f.Fuzz(func(t *testing.T, b []byte) {
		s := &source{b}
		x := api.PEdge{From: s.pick(4), To: s.pick(4), Type: draw(s, "", "a", "ab", "b"), Either: s.pick(2) == 1}
		e := api.Edge{From: s.pick(4) + 1, To: s.pick(4) + 1, Type: draw(s, "a", "ab", "b"), W: draw(s, 0, 1, posInf)}
		from, to := s.pick(6), s.pick(6)
		wantJoins(t, x, e, from, to, plainJoins(x, e, from, to))
	})
}
