package record

import (
	"ligature/api"
	"ligature/leb"
)

// Encode returns the numbers of nodes and edges and the elements of l as bytes, or ErrArg if one
// of them is not valid.
func Encode(nodes, edges int, l []api.Write) ([]byte, api.Errno) {
	if !encodable(nodes, edges, l) {
		return nil, api.ErrArg
	}
	b := leb.Int(nil, nodes, edges, len(l))
	for _, w := range l {
		b = append(b, writeBytes(w)...)
	}
	return b, api.OK
}

// encodable reports whether Encode takes these arguments.
func encodable(nodes, edges int, l []api.Write) bool {
	if !within(nodes, 0, api.MaxNodes) || !within(edges, 0, api.MaxEdges) {
		return false
	}
	seenNodes, seenEdges := make([]bool, nodes+1), make([]bool, edges+1)
	for _, w := range l {
		seen := seenNodes
		if w.Edge {
			seen = seenEdges
		}
		if !within(w.ID, 1, len(seen)-1) || seen[w.ID] || !consistent(w) {
			return false
		}
		seen[w.ID] = true
	}
	return true
}

// consistent reports whether w has a valid node or edge where it must have one, and the zero one
// elsewhere.
func consistent(w api.Write) bool {
	noNode, noEdge := Same(w.N, api.Node{}), SameEdge(w.E, api.Edge{})
	switch {
	case w.Gone:
		return noNode && noEdge
	case w.Edge:
		return noNode && IsEdge(w.E)
	}
	return IsNode(w.N) && noEdge
}

// writeBytes returns the encoding of one element.
func writeBytes(w api.Write) []byte {
	b := leb.Int(nil, bit(w.Edge), w.ID, bit(w.Gone))
	switch {
	case w.Gone:
		return b
	case w.Edge:
		return append(b, edgeBytes(w.E)...)
	}
	return append(b, nodeBytes(w.N)...)
}

// bit returns 1 for true and 0 for false.
func bit(is bool) int {
	if is {
		return 1
	}
	return 0
}

// nodeBytes returns the encoding of a node.
func nodeBytes(n api.Node) []byte {
	b := leb.Int(nil, len(n.Labels))
	b = leb.Str(b, n.Labels...)
	b = leb.Int(b, len(n.Props))
	for _, p := range n.Props {
		b = leb.Str(b, p.Key)
		b = append(b, valBytes(p.V)...)
	}
	return b
}

// valBytes returns the encoding of a value that is not Null.
func valBytes(v api.Val) []byte {
	b := leb.Int(nil, v.Kind)
	switch v.Kind {
	case api.Bool:
		return leb.Int(b, bit(v.B))
	case api.Int:
		return leb.Int(b, v.N)
	case api.Real:
		return leb.Real(b, v.F)
	}
	return leb.Str(b, v.T)
}

// edgeBytes returns the encoding of an edge.
func edgeBytes(e api.Edge) []byte {
	b := leb.Int(nil, e.From, e.To)
	b = leb.Str(b, e.Type)
	return leb.Real(b, e.W)
}
