package record

import (
	"ligature/api"
	"ligature/leb"
)

// Decode returns the arguments for which Encode returns b, or ErrForm if there are none.
func Decode(b []byte) (nodes, edges int, l []api.Write, err api.Errno) {
	r := reader{c: leb.Open(b)}
	nodes, edges = r.c.Int(), r.c.Int()
	for range r.count(api.MaxNodes + api.MaxEdges) {
		l = append(l, r.write())
	}
	// The cursor takes each number and string in one form only, so that what Encode takes is now
	// what it has encoded as b.
	if r.bad || !r.c.Whole() || !encodable(nodes, edges, l) {
		return 0, 0, nil, api.ErrForm
	}
	return nodes, edges, l, api.OK
}

// reader decodes the parts of an encoding.
type reader struct {
	c   *leb.Cursor
	bad bool // a part cannot be one that Encode writes
}

// count decodes how many elements follow, of which there are at most most.
func (r *reader) count(most int) int {
	n := r.c.Int()
	if !within(n, 0, most) {
		// Nobody is to go through as many elements as any bytes claim.
		r.bad = true
		return 0
	}
	return n
}

// flag decodes what bit has made a number of.
func (r *reader) flag() bool {
	n := r.c.Int()
	if !within(n, 0, 1) {
		r.bad = true
	}
	return n == 1
}

// write decodes one element.
func (r *reader) write() api.Write {
	w := api.Write{Edge: r.flag(), ID: r.c.Int(), Gone: r.flag()}
	switch {
	case w.Gone:
	case w.Edge:
		w.E = r.edge()
	default:
		w.N = r.node()
	}
	return w
}

// node decodes a node.
func (r *reader) node() api.Node {
	var n api.Node
	for range r.count(api.MaxLabels) {
		n.Labels = append(n.Labels, r.c.Str())
	}
	for range r.count(api.MaxProps) {
		n.Props = append(n.Props, api.Prop{Key: r.c.Str(), V: r.val()})
	}
	return n
}

// val decodes a value.
func (r *reader) val() api.Val {
	v := api.Val{Kind: r.c.Int()}
	switch v.Kind {
	case api.Bool:
		v.B = r.flag()
	case api.Int:
		v.N = r.c.Int()
	case api.Real:
		v.F = r.c.Real()
	case api.Text:
		v.T = r.c.Str()
	}
	return v
}

// edge decodes an edge.
func (r *reader) edge() api.Edge {
	return api.Edge{From: r.c.Int(), To: r.c.Int(), Type: r.c.Str(), W: r.c.Real()}
}
