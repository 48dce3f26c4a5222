package tree

import (
	"ligature/api"
	"ligature/value"
)

// node is an entry with the lesser entries on its left and the greater ones on its right. A nil node
// is a tree without entries.
type node struct {
	x           api.Entry
	left, right *node
	deep        int // kept, because balancing asks for it at each step
}

// depth returns the number of nodes on the longest path from n to a leaf.
func (n *node) depth() int {
	if n == nil {
		return 0
	}
	return n.deep
}

// measure sets the depth of n from those of its sides.
func (n *node) measure() { n.deep = 1 + max(n.left.depth(), n.right.depth()) }

// lean returns by how much the right side is deeper than the left one.
func (n *node) lean() int { return n.right.depth() - n.left.depth() }

// add inserts x, and returns the new root and whether x was not there before.
func (n *node) add(x api.Entry) (*node, bool) {
	if n == nil {
		return &node{x: x, deep: 1}, true
	}
	added := false
	switch c := compare(x, n.x); {
	case c < 0:
		n.left, added = n.left.add(x)
	case c > 0:
		n.right, added = n.right.add(x)
	}
	return n.balance(), added
}

// del removes x, and returns the new root and whether x was there before.
func (n *node) del(x api.Entry) (*node, bool) {
	if n == nil {
		return nil, false
	}
	var deleted bool
	switch c := compare(x, n.x); {
	case c < 0:
		n.left, deleted = n.left.del(x)
	case c > 0:
		n.right, deleted = n.right.del(x)
	default:
		return join(n.left, n.right), true
	}
	return n.balance(), deleted
}

// join returns the root of the two sides of a node that is removed.
func join(left, right *node) *node {
	if right == nil {
		return left
	}
	rest, root := right.cutFirst()
	root.left, root.right = left, rest
	return root.balance()
}

// cutFirst removes the first node, and returns the new root and the first node.
func (n *node) cutFirst() (rest, first *node) {
	if n.left == nil {
		return n.right, n
	}
	n.left, first = n.left.cutFirst()
	return n.balance(), first
}

// balance returns the root of n after one of its sides has become deeper or less deep by one.
func (n *node) balance() *node {
	switch n.lean() {
	case 2:
		if n.right.lean() < 0 {
			n.right = n.right.turnRight()
		}
		return n.turnLeft()
	case -2:
		if n.left.lean() > 0 {
			n.left = n.left.turnLeft()
		}
		return n.turnRight()
	}
	n.measure()
	return n
}

// turnLeft puts the node on the right of n above n, and returns it.
func (n *node) turnLeft() *node {
	top := n.right
	n.right, top.left = top.left, n
	n.measure()
	top.measure()
	return top
}

// turnRight puts the node on the left of n above n, and returns it.
func (n *node) turnRight() *node {
	top := n.left
	n.left, top.right = top.right, n
	n.measure()
	top.measure()
	return top
}

// appendAll appends all entries to l, in order.
func (n *node) appendAll(l []api.Entry) []api.Entry {
	if n == nil {
		return l
	}
	l = append(n.left.appendAll(l), n.x)
	return n.right.appendAll(l)
}

// appendRange appends the entries with values from lo to hi to l, in order. It leaves out a side of
// which the node itself tells that none is there.
func (n *node) appendRange(l []api.Entry, lo, hi api.Val) []api.Entry {
	if n == nil {
		return l
	}
	if value.Cmp(n.x.V, lo) >= 0 {
		l = n.left.appendRange(l, lo, hi)
	}
	if value.In(n.x.V, lo, hi) {
		l = append(l, n.x)
	}
	if value.Cmp(n.x.V, hi) <= 0 {
		l = n.right.appendRange(l, lo, hi)
	}
	return l
}
