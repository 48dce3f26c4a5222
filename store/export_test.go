package store

// Lens returns the number of versions of each node and of each edge, in the order of their IDs. The
// document leaves open which obsolete version Vacuum removes; by these numbers tests tell which one.
func Lens(s *Store) (nodes, edges []int) {
	for _, e := range s.nodes.all {
		nodes = append(nodes, e.cell.Len())
	}
	for _, e := range s.edges.all {
		edges = append(edges, e.cell.Len())
	}
	return nodes, edges
}

// Keys returns for how many keys the Store has an index.
func Keys(s *Store) int { return len(s.contents.values) }
