package store

import (
	"slices"
	"strings"

	"ligature/api"
	"ligature/record"
)

// Pending returns how many IDs of nodes and of edges have been assigned, and what t has written.
func (s *Store) Pending(t int) (nodes, edges int, l []api.Write, err api.Errno) {
	if !s.live(t) {
		return 0, 0, nil, api.ErrState
	}
	for _, id := range s.nodes.written(t) {
		n, ok := s.nodes.read(t, id)
		l = append(l, nodeWrite(id, n, ok))
	}
	for _, id := range s.edges.written(t) {
		e, ok := s.edges.read(t, id)
		l = append(l, edgeWrite(id, e, ok))
	}
	return s.nodes.count(), s.edges.count(), l, api.OK
}

// Image returns how many IDs of nodes and of edges have been assigned, and what a transaction that
// began now would read.
func (s *Store) Image() (nodes, edges int, l []api.Write) {
	if s == nil {
		return 0, 0, nil
	}
	for _, id := range s.nodes.existing() {
		n, ok := s.nodes.current(id)
		l = append(l, nodeWrite(id, n, ok))
	}
	for _, id := range s.edges.existing() {
		e, ok := s.edges.current(id)
		l = append(l, edgeWrite(id, e, ok))
	}
	return s.nodes.count(), s.edges.count(), l
}

// Load writes all elements of l in one transaction, and assigns the given numbers of IDs.
func (s *Store) Load(nodes, edges int, l []api.Write) api.Errno {
	if s == nil {
		return api.ErrState
	}
	if _, err := record.Encode(nodes, edges, l); err != api.OK {
		return api.ErrArg
	}
	if s.Live() > 0 {
		return api.ErrState
	}
	if !s.keepsEnds(l) || !s.keepsNodes(l) {
		return api.ErrArg
	}
	s.start()
	s.nodes.grow(nodes)
	s.edges.grow(edges)
	// No transaction is live: one can begin, and what it writes clashes with nothing.
	t, _ := s.clock.Begin()
	for _, w := range l {
		if w.Edge {
			s.edges.write(t, w.ID, copyEdge(w.E), w.Gone)
		} else {
			s.nodes.write(t, w.ID, copyNode(w.N), w.Gone)
		}
	}
	return s.Commit(t)
}

// keepsEnds reports whether no edge of l that is not Gone leads between other nodes than a version of
// the same edge.
func (s *Store) keepsEnds(l []api.Write) bool {
	for _, w := range l {
		if !w.Edge || w.Gone {
			continue
		}
		for _, e := range s.edges.versions(w.ID) {
			if e.From != w.E.From || e.To != w.E.To {
				return false
			}
		}
	}
	return true
}

// keepsNodes reports whether no edge lacks one of its nodes after l has been written.
func (s *Store) keepsNodes(l []api.Write) bool {
	var nodes [api.MaxNodes + 1]bool
	var edges [api.MaxEdges + 1]api.Edge
	_, _, before := s.Image()
	for _, w := range slices.Concat(before, l) {
		if w.Edge {
			// That of an edge that is Gone is the zero one.
			edges[w.ID] = w.E
		} else {
			nodes[w.ID] = !w.Gone
		}
	}
	// An edge that is not there leads from and to node 0, and lacks nothing.
	nodes[0] = true
	for _, e := range edges {
		if !nodes[e.From] || !nodes[e.To] {
			return false
		}
	}
	return true
}

// nodeWrite returns what was made of a node: n, or nothing.
func nodeWrite(id int, n api.Node, is bool) api.Write {
	return api.Write{ID: id, Gone: !is, N: copyNode(n)}
}

// edgeWrite returns what was made of an edge: e, or nothing.
func edgeWrite(id int, e api.Edge, is bool) api.Write {
	return api.Write{Edge: true, ID: id, Gone: !is, E: copyEdge(e)}
}

// copyNode returns n in new memory. Strings are copied as well: a short one may be a part of a long
// one, which would be kept with it.
func copyNode(n api.Node) api.Node {
	var m api.Node
	for _, label := range n.Labels {
		m.Labels = append(m.Labels, strings.Clone(label))
	}
	for _, p := range n.Props {
		p.Key, p.V.T = strings.Clone(p.Key), strings.Clone(p.V.T)
		m.Props = append(m.Props, p)
	}
	return m
}

// copyEdge returns e in new memory.
func copyEdge(e api.Edge) api.Edge {
	e.Type = strings.Clone(e.Type)
	return e
}
