package tree

// Longest returns the number of nodes on the longest path of t, counted node by node: Depth is held
// against it, as what the other methods return does not tell it.
func Longest(t *Tree) int { return longest(t.root) }

func longest(n *node) int {
	if n == nil {
		return 0
	}
	return 1 + max(longest(n.left), longest(n.right))
}

// Even reports whether the depths of the two sides of each node differ by at most 1: that is why
// the bound of Depth holds after other sequences than those that are tested, too.
func Even(t *Tree) bool { return even(t.root) }

func even(n *node) bool {
	if n == nil {
		return true
	}
	lean := longest(n.right) - longest(n.left)
	return -1 <= lean && lean <= 1 && even(n.left) && even(n.right)
}
