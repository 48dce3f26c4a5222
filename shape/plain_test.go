package shape_test

import (
	"encoding/binary"
	"math"
	"regexp"
	"slices"
	"strings"

	"ligature/api"
)

// What follows says again, in another way and without packages real, value and record, what the
// document says of patterns. The tests hold the package against it.

const canonical = 0x7ff8000000000000

var (
	bits     = math.Float64bits
	from     = math.Float64frombits
	nan      = from(canonical)
	negZero  = math.Copysign(0, -1)
	posInf   = math.Inf(1)
	negInf   = math.Inf(-1)
	smallest = math.SmallestNonzeroFloat64
)

func truth(b bool) api.Val     { return api.Val{Kind: api.Bool, B: b} }
func whole(n int) api.Val      { return api.Val{Kind: api.Int, N: n} }
func number(f float64) api.Val { return api.Val{Kind: api.Real, F: f} }
func text(s string) api.Val    { return api.Val{Kind: api.Text, T: s} }

func prop(key string, v api.Val) api.Prop { return api.Prop{Key: key, V: v} }

var (
	namePattern = regexp.MustCompile(`\A[a-z]{1,8}\z`)
	textPattern = regexp.MustCompile(`\A[ -~]{0,12}\z`)
)

func plainNameOrEmpty(s string) bool { return len(s) == 0 || namePattern.MatchString(s) }

// plainVal reports whether v is valid, by making it again from the one field.
func plainVal(v api.Val) bool {
	switch v.Kind {
	case 0:
		return identicalVal(v, api.Val{})
	case 1:
		return identicalVal(v, truth(v.B))
	case 2:
		return identicalVal(v, whole(v.N))
	case 3:
		return identicalVal(v, number(v.F)) && (v.F == v.F || bits(v.F) == canonical)
	case 4:
		return identicalVal(v, text(v.T)) && textPattern.MatchString(v.T)
	}
	return false
}

func plainIs(p api.Pattern) bool {
	switch len(p.Nodes) {
	case 1, 2, 3, 4:
	default:
		return false
	}
	switch len(p.Edges) {
	case 0, 1, 2, 3, 4:
	default:
		return false
	}
	for _, x := range p.Nodes {
		ends := x.Lo.Kind != 0 || x.Hi.Kind != 0
		if !plainNameOrEmpty(x.Label) || !plainNameOrEmpty(x.Key) || !plainVal(x.Lo) || !plainVal(x.Hi) || x.Key == "" && ends {
			return false
		}
	}
	var places []int
	for i := range p.Nodes {
		places = append(places, i)
	}
	for _, x := range p.Edges {
		if !plainNameOrEmpty(x.Type) || !slices.Contains(places, x.From) || !slices.Contains(places, x.To) {
			return false
		}
	}
	return true
}

// place has bytes that are ordered as the document orders valid values.
func place(v api.Val) string {
	b := []byte{byte(v.Kind)}
	switch v.Kind {
	case 1:
		if v.B {
			return string(append(b, 1))
		}
		return string(append(b, 0))
	case 2:
		return string(binary.BigEndian.AppendUint64(b, uint64(v.N)+1<<63))
	case 3:
		if math.Signbit(v.F) {
			return string(binary.BigEndian.AppendUint64(b, ^bits(v.F)))
		}
		return string(binary.BigEndian.AppendUint64(b, bits(v.F)+1<<63))
	case 4:
		return string(b) + v.T
	}
	return string(b)
}

func plainFits(x api.PNode, n api.Node) bool {
	held := map[string]string{}
	for _, p := range n.Props {
		held[p.Key] = place(p.V)
	}
	if x.Key != "" {
		v, ok := held[x.Key]
		if !ok || v < place(x.Lo) || v > place(x.Hi) {
			return false
		}
	}
	return slices.Index(append([]string{""}, n.Labels...), x.Label) >= 0
}

func plainJoins(x api.PEdge, e api.Edge, from, to int) bool {
	ways := map[[2]int]bool{{e.From, e.To}: true}
	if x.Either {
		ways[[2]int{e.To, e.From}] = true
	}
	types := map[string]bool{"": true, e.Type: true}
	return types[x.Type] && ways[[2]int{from, to}]
}

// identicalVal tells values apart by their fields, and numbers by their bits.
func identicalVal(a, b api.Val) bool {
	return a.Kind == b.Kind && a.B == b.B && a.N == b.N && bits(a.F) == bits(b.F) && a.T == b.T
}

func identicalPNode(a, b api.PNode) bool {
	return a.Label == b.Label && a.Key == b.Key && identicalVal(a.Lo, b.Lo) && identicalVal(a.Hi, b.Hi)
}

func identicalProp(a, b api.Prop) bool { return a.Key == b.Key && identicalVal(a.V, b.V) }

// identicalPattern also compares the capacity of the slices and what stands in the unused part.
func identicalPattern(a, b api.Pattern) bool {
	return slices.EqualFunc(full(a.Nodes), full(b.Nodes), identicalPNode) && len(a.Nodes) == len(b.Nodes) &&
		slices.Equal(full(a.Edges), full(b.Edges)) && len(a.Edges) == len(b.Edges)
}

// identicalNode also compares the capacity of the slices and what stands in the unused part.
func identicalNode(a, b api.Node) bool {
	return slices.EqualFunc(full(a.Props), full(b.Props), identicalProp) && len(a.Props) == len(b.Props) &&
		slices.Equal(full(a.Labels), full(b.Labels)) && len(a.Labels) == len(b.Labels)
}

// full has the elements of l from the first one to the end of its capacity.
func full[T any](l []T) []T { return l[:cap(l)] }

// copied has new memory of the same length and capacity, with copies made by one.
func copied[T any](l []T, one func(T) T) []T {
	out := make([]T, cap(l))
	for i, x := range full(l) {
		out[i] = one(x)
	}
	return out[:len(l):cap(l)]
}

func copiedVal(v api.Val) api.Val {
	v.T = strings.Clone(v.T)
	return v
}

func copiedPNode(x api.PNode) api.PNode {
	return api.PNode{Label: strings.Clone(x.Label), Key: strings.Clone(x.Key), Lo: copiedVal(x.Lo), Hi: copiedVal(x.Hi)}
}

func copiedPEdge(x api.PEdge) api.PEdge {
	x.Type = strings.Clone(x.Type)
	return x
}

func copiedEdge(e api.Edge) api.Edge {
	e.Type = strings.Clone(e.Type)
	return e
}

// copiedPattern shares no memory with p.
func copiedPattern(p api.Pattern) api.Pattern {
	return api.Pattern{Nodes: copied(p.Nodes, copiedPNode), Edges: copied(p.Edges, copiedPEdge)}
}

// copiedNode shares no memory with n.
func copiedNode(n api.Node) api.Node {
	return api.Node{Labels: copied(n.Labels, strings.Clone), Props: copied(n.Props, func(p api.Prop) api.Prop {
		return prop(strings.Clone(p.Key), copiedVal(p.V))
	})}
}
