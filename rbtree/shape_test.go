package rbtree

import "testing"

// shape: how many black nodes each way down has, and what all count together; a test fails where the tree doesn't lean as it should.
func shape(t *testing.T, n *node[int, string]) (black int, all string) {
	t.Helper()
	if n == nil {
		return 0, ""
	}
	if n.right.isRed() || n.red && n.left.isRed() {
		t.Fatalf("%d has a red right child, or is red as its left one is", n.thing)
	}
	left, before := shape(t, n.left)
	right, behind := shape(t, n.right)
	if left != right {
		t.Fatalf("%d has %d black ones to the left, %d to the right", n.thing, left, right)
	}
	if wanted := before + string(rune(n.thing)) + behind; n.all != wanted {
		t.Fatalf("%d and all below count %q, wanted %q", n.thing, n.all, wanted)
	}
	if !n.red {
		left++
	}
	return left, n.all
}

func checkShape(t *testing.T, x *Tree[int, string]) {
	t.Helper()
	if x.root.isRed() {
		t.Fatalf("the root %d is red", x.root.thing)
	}
	shape(t, x.root)
}

func TestP6_3Shape(t *testing.T) {
	x := New(func(a, b int) bool { return a < b }, func(a int) string { return string(rune(a)) }, func(a, b string) string { return a + b })
	state := uint64(88172645463325252)
	for round := range 20000 {
		state ^= state << 13
		state ^= state >> 7
		state ^= state << 17
		a, which := 'a'+int(state>>8%100), int(state>>32%8)
		// By turns more come, and more leave.
		if which < 2+round/1000%5 {
			x.Insert(a)
		} else {
			x.Delete(a)
		}
		checkShape(t, x)
		if round%50 == 0 {
			x = x.Clone()
			checkShape(t, x)
		}
	}
}
