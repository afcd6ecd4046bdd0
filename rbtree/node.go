package rbtree

// A node holds a thing; all is what that, and all things below it, count together.
type node[T, A any] struct {
	thing       T
	all         A
	left, right *node[T, A]
	red         bool
}

func (n *node[T, A]) isRed() bool { return n != nil && n.red }

// canLend: a thing can leave below a node with no black one too few there, where it is red, or its left child is.
func (n *node[T, A]) canLend() bool { return n.isRed() || n.left.isRed() }

func (n *node[T, A]) least() T {
	for n.left != nil {
		n = n.left
	}
	return n.thing
}

func (n *node[T, A]) addTo(l []T) []T {
	if n == nil {
		return l
	}
	return n.right.addTo(append(n.left.addTo(l), n.thing))
}

func (n *node[T, A]) depth() int {
	if n == nil {
		return 0
	}
	return 1 + max(n.left.depth(), n.right.depth())
}

func (n *node[T, A]) flip() {
	n.red = !n.red
	n.left.red = !n.left.red
	n.right.red = !n.right.red
}

func (t *Tree[T, A]) count(n *node[T, A]) {
	n.all = t.upTo(n)
	if n.right != nil {
		n.all = t.join(n.all, n.right.all)
	}
}

// copied counts anew: what a thing counts may be a list, and two trees must share none.
func (t *Tree[T, A]) copied(n *node[T, A]) *node[T, A] {
	if n == nil {
		return nil
	}
	c := &node[T, A]{thing: n.thing, red: n.red, left: t.copied(n.left), right: t.copied(n.right)}
	t.count(c)
	return c
}

// turnLeft, as turnRight, counts only the node that goes down: the one that comes up is balanced later, and counted then.
func (t *Tree[T, A]) turnLeft(n *node[T, A]) *node[T, A] {
	up := n.right
	n.right, up.left = up.left, n
	up.red, n.red = n.red, true
	t.count(n)
	return up
}

func (t *Tree[T, A]) turnRight(n *node[T, A]) *node[T, A] {
	up := n.left
	n.left, up.right = up.right, n
	up.red, n.red = n.red, true
	t.count(n)
	return up
}

// balance mends what a change below a node left behind, and counts it.
func (t *Tree[T, A]) balance(n *node[T, A]) *node[T, A] {
	if n.right.isRed() && !n.left.isRed() {
		n = t.turnLeft(n)
	}
	if n.left.isRed() && n.left.left.isRed() {
		n = t.turnRight(n)
	}
	if n.left.isRed() && n.right.isRed() {
		n.flip()
	}
	t.count(n)
	return n
}

func (t *Tree[T, A]) put(n *node[T, A], x T) *node[T, A] {
	switch {
	case n == nil:
		n = &node[T, A]{thing: x, red: true}
	case t.less(x, n.thing):
		n.left = t.put(n.left, x)
	default:
		n.right = t.put(n.right, x)
	}
	return t.balance(n)
}

// lendLeft sees to it that a thing can leave below the left child of a node below which one can leave.
func (t *Tree[T, A]) lendLeft(n *node[T, A]) *node[T, A] {
	if n.left.canLend() {
		return n
	}
	n.flip()
	if n.right.left.isRed() {
		n.right = t.turnRight(n.right)
		n = t.turnLeft(n)
		n.flip()
	}
	return n
}

// lendRight does so for the right child, where the left one isn't red.
func (t *Tree[T, A]) lendRight(n *node[T, A]) *node[T, A] {
	if n.right.canLend() {
		return n
	}
	n.flip()
	if n.left.left.isRed() {
		n = t.turnRight(n)
		n.flip()
	}
	return n
}

// remove: a thing that is there, below a node that can lend, or below the root (whose own colour counts for nothing).
func (t *Tree[T, A]) remove(n *node[T, A], x T) *node[T, A] {
	if t.less(x, n.thing) {
		n = t.lendLeft(n)
		n.left = t.remove(n.left, x)
		return t.balance(n)
	}
	if n.left.isRed() {
		n = t.turnRight(n)
	}
	// It has no left child then either, for that one would be red, and turned: so x is this one's.
	if n.right == nil {
		return nil
	}
	n = t.lendRight(n)
	if t.less(n.thing, x) {
		n.right = t.remove(n.right, x)
	} else {
		n.thing = n.right.least()
		n.right = t.removeLeast(n.right)
	}
	return t.balance(n)
}

func (t *Tree[T, A]) removeLeast(n *node[T, A]) *node[T, A] {
	if n.left == nil {
		return nil
	}
	n = t.lendLeft(n)
	n.left = t.removeLeast(n.left)
	return t.balance(n)
}
