package shape_test

import (
	"fmt"
	"math"
	"slices"
	"strings"

	"ligature/api"
)

// goodNames has names in strictly ascending order.
func goodNames() []string {
	return []string{"a", "aa", "aaaaaaaa", "aaaaaaab", "aab", "ab", "abcdefgh", "az", "b", "ba", "m", "n", "y", "yzzzzzzz", "z", "za", "zzzzzzzy", "zzzzzzzz"}
}

// badNames has strings that are neither names nor empty, one for each way not to be one.
func badNames() []string {
	l := []string{"A", "Z", "aB", "Ba", "1", "a1", " ", "a b", " a", "a ", "a_b", "-", "`", "{", "a`", "a{", "@", "[", "\x00", "a\x00", "\x00a", "a\n", "\x7f", "\xff", "\xe1", "abcdefghi", "aaaaaaaaa", "zzzzzzzzz", "abcdefghI"}
	l = append(l, "\u00e4", "a\u00e4", "a\u0301", "\uff41", "\u212a", "\u017f", "\U0001f600", "\xc3", "\x80a")
	for _, n := range []int{10, 12, 16, 255, 256, 257, 264, 1<<16 + 1} {
		l = append(l, strings.Repeat("a", n))
	}
	return l
}

// rising has valid values of every kind in strictly rising order.
func rising() []api.Val {
	l := []api.Val{{}, truth(false), truth(true)}
	for _, n := range []int{math.MinInt, -1 << 53, -10, -2, -1, 0, 1, 2, 9, 10, 1 << 53, 1<<53 + 1, math.MaxInt - 1, math.MaxInt} {
		l = append(l, whole(n))
	}
	for _, f := range []float64{negInf, -math.MaxFloat64, -2, -1, -smallest, negZero, 0, smallest, 1, 2, 10, math.MaxFloat64, posInf, nan} {
		l = append(l, number(f))
	}
	for _, s := range []string{"", " ", "!", "-1", "1", "10", "2", "A", "Z", "a", "a ", "aa", "aaaaaaaaaaaa", "aaaaaaaaaaab", "ab", "b", "~", "~~~~~~~~~~~~"} {
		l = append(l, text(s))
	}
	return l
}

// strangeNaNs has NaNs of both signs, quiet and signalling, all but the canonical one.
func strangeNaNs() []float64 {
	l := []float64{math.NaN(), from(canonical | 1<<63)}
	for i := range 51 {
		l = append(l, from(0x7ff<<52|1<<i), from(0xfff<<52|1<<i), from(canonical|1<<i), from(canonical|1<<63|1<<i))
	}
	return l
}

// strayVals has values that are not valid because a field is set that the Kind does not name.
func strayVals() []api.Val {
	var l []api.Val
	for _, v := range rising() {
		b, n, f, z, s := v, v, v, v, v
		b.B, n.N, f.F, z.F, s.T = true, -1, 1, negZero, "a"
		for i, kind := range []int{api.Bool, api.Int, api.Real, api.Real, api.Text} {
			if kind != v.Kind {
				l = append(l, []api.Val{b, n, f, z, s}[i])
			}
		}
	}
	return l
}

// badVals has values that are not valid.
func badVals() []api.Val {
	l := strayVals()
	for _, k := range []int{-1, -2, 5, 6, 8, 255, 256, 1<<8 | api.Text, 1<<32 | api.Int, math.MaxInt, math.MinInt} {
		l = append(l, api.Val{Kind: k}, api.Val{Kind: k, B: true}, api.Val{Kind: k, N: 1}, api.Val{Kind: k, F: 1}, api.Val{Kind: k, T: "a"})
	}
	for _, f := range strangeNaNs() {
		l = append(l, number(f))
	}
	for _, s := range []string{"thirteen byte", "\x1f", "\x7f", "a\x00", "\t", "\n", "a\n", "\u00e4", "\xff", "\x80", strings.Repeat("a", 256), strings.Repeat("a", 268)} {
		l = append(l, text(s))
	}
	return l
}

// mixedVals has a few valid values of each kind and a few that are not valid.
func mixedVals() []api.Val {
	return []api.Val{
		{}, truth(false), truth(true), whole(0), whole(-1), whole(math.MaxInt), number(0), number(negZero), number(nan), number(negInf), text(""), text("a"), text("twelve bytes"),
		{B: true}, {N: 1}, {F: 1}, {F: negZero}, {T: "a"}, {Kind: api.Bool, N: 1}, {Kind: api.Int, B: true}, {Kind: api.Int, F: negZero}, {Kind: api.Real, N: 1}, {Kind: api.Text, F: 1},
		{Kind: -1}, {Kind: 5}, {Kind: 1 << 32}, number(math.NaN()), number(from(canonical | 1<<63)), text("thirteen byte"), text("\x1f"), text("\x7f"),
	}
}

// A source draws what the tests need from bytes; where they end it draws the first of each.
type source struct{ b []byte }

func (s *source) pick(n int) int {
	if len(s.b) == 0 {
		return 0
	}
	c := s.b[0]
	s.b = s.b[1:]
	return int(c) % n
}

func draw[T any](s *source, l ...T) T { return l[s.pick(len(l))] }

// seldom is true for one byte of 16.
func (s *source) seldom() bool { return s.pick(16) == 15 }

func (s *source) name() string {
	if s.seldom() {
		return draw(s, badNames()...)
	}
	return draw(s, append(goodNames(), "", "", "", "")...)
}

func (s *source) val() api.Val {
	if s.seldom() {
		return draw(s, mixedVals()...)
	}
	return draw(s, rising()...)
}

// pattern draws one that is often valid.
func (s *source) pattern() api.Pattern {
	var p api.Pattern
	nodes, edges := s.pick(4)+1, s.pick(5)
	if s.seldom() {
		nodes, edges = s.pick(6), s.pick(6)
	}
	for range nodes {
		x := api.PNode{Label: s.name(), Key: s.name()}
		if x.Key != "" || s.seldom() {
			x.Lo, x.Hi = s.val(), s.val()
		}
		p.Nodes = append(p.Nodes, x)
	}
	for range edges {
		x := api.PEdge{From: s.pick(max(nodes, 1)), To: s.pick(max(nodes, 1)), Type: s.name(), Either: s.pick(2) == 1}
		if s.seldom() {
			x.From = draw(s, -1, nodes, 0, math.MinInt, math.MaxInt)
		}
		if s.seldom() {
			x.To = draw(s, -1, nodes, 0, math.MinInt, math.MaxInt)
		}
		p.Edges = append(p.Edges, x)
	}
	return p
}

// node draws a valid one with few names, so that patterns with the same ones often fit.
func (s *source) node() api.Node {
	var n api.Node
	for _, name := range []string{"a", "ab", "b"} {
		if s.pick(2) == 1 {
			n.Labels = append(n.Labels, name)
		}
	}
	for _, name := range []string{"a", "b", "c"} {
		if s.pick(4) > 0 {
			n.Props = append(n.Props, prop(name, draw(s, rising()[1:]...)))
		}
	}
	return n
}

// pnode draws a node of a valid pattern.
func (s *source) pnode() api.PNode {
	x := api.PNode{Label: draw(s, "", "a", "ab", "b", "c"), Key: draw(s, "", "a", "b", "c", "ab")}
	if x.Key == "" {
		return x
	}
	x.Lo, x.Hi = draw(s, rising()...), draw(s, rising()...)
	if place(x.Lo) > place(x.Hi) && s.pick(4) > 0 {
		x.Lo, x.Hi = x.Hi, x.Lo
	}
	return x
}

// shortPatterns has all patterns of at most 2 nodes and at most 1 edge from short lists.
func shortPatterns(yield func(api.Pattern) bool) {
	var nodes []api.PNode
	for _, label := range []string{"", "a", "A"} {
		for _, key := range []string{"", "k", "K"} {
			for _, lo := range []api.Val{{}, whole(1), {N: 1}} {
				for _, hi := range []api.Val{{}, text("x"), text("\x7f")} {
					nodes = append(nodes, api.PNode{Label: label, Key: key, Lo: lo, Hi: hi})
				}
			}
		}
	}
	lists := [][]api.PNode{nil}
	for _, a := range nodes {
		lists = append(lists, []api.PNode{a})
		for _, b := range nodes {
			lists = append(lists, []api.PNode{a, b})
		}
	}
	for _, l := range lists {
		for _, edges := range shortEdges() {
			if !yield(api.Pattern{Nodes: l, Edges: edges}) {
				return
			}
		}
	}
}

// shortEdges has all lists of at most one edge from short lists.
func shortEdges() [][]api.PEdge {
	out := [][]api.PEdge{nil}
	for _, kind := range []string{"", "t", "T"} {
		for from := -1; from < 3; from++ {
			for to := -1; to < 3; to++ {
				out = append(out, []api.PEdge{{From: from, To: to, Type: kind, Either: (from+to)%2 == 0}})
			}
		}
	}
	return out
}

// spaced has the elements of l in a slice with room for more, which holds something else.
func spaced[T any](l []T, more ...T) []T {
	return slices.Concat(l, more)[:len(l)]
}

// short tells what x holds in at most 700 bytes, as some arguments are large.
func short(x any) string {
	s := fmt.Sprintf("%#v", x)
	return s[:min(len(s), 700)]
}
