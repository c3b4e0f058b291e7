package sorted

import "iter"

// node is a key with its value, between two trees: all keys of the left one are less, all of the right one greater,
// and their depths differ by 1 at most. It is never changed once it is made, so that maps and walks may share it.
type node[V any] struct {
	key         string
	value       V
	left, right *node[V]
	depth       int
}

// depth is how many keys stand on the longest way down a tree.
func depth[V any](n *node[V]) int {
	if n == nil {
		return 0
	}
	return n.depth
}

// seek is the node of the least key that isn't less than this one.
func seek[V any](n *node[V], key string) *node[V] {
	var least *node[V]
	for n != nil {
		switch {
		case n.key < key:
			n = n.right
		case n.key == key:
			return n
		default:
			least, n = n, n.left
		}
	}
	return least
}

// put is the tree in which the key has v, and whether the key is new there.
func put[V any](n *node[V], key string, v V) (*node[V], bool) {
	if n == nil {
		return &node[V]{key: key, value: v, depth: 1}, true
	}
	switch {
	case key < n.key:
		left, fresh := put(n.left, key, v)
		return level(n, left, n.right), fresh
	case key > n.key:
		right, fresh := put(n.right, key, v)
		return level(n, n.left, right), fresh
	}
	return &node[V]{key: key, value: v, left: n.left, right: n.right, depth: n.depth}, false
}

// drop is the tree without the key, and whether that was there; a tree that doesn't have it is answered itself.
func drop[V any](n *node[V], key string) (*node[V], bool) {
	switch {
	case n == nil:
		return nil, false
	case key < n.key:
		left, gone := drop(n.left, key)
		if !gone {
			return n, false
		}
		return level(n, left, n.right), true
	case key > n.key:
		right, gone := drop(n.right, key)
		if !gone {
			return n, false
		}
		return level(n, n.left, right), true
	}
	return meet(n.left, n.right), true
}

// meet is one tree of two whose node between them is gone.
func meet[V any](left, right *node[V]) *node[V] {
	if right == nil {
		return left
	}
	least, rest := takeLeast(right)
	return level(least, left, rest)
}

// takeLeast is the node of a tree's least key, and the tree without it.
func takeLeast[V any](n *node[V]) (least, rest *node[V]) {
	if n.left == nil {
		return n, n.right
	}
	least, rest = takeLeast(n.left)
	return least, level(n, rest, n.right)
}

// level is a tree of mid's key between two trees whose depths differ by 2 at most: the deeper one gives some of its
// own to the other side.
func level[V any](mid, left, right *node[V]) *node[V] {
	switch depth(left) - depth(right) {
	case 2:
		inner := left.right
		if depth(left.left) >= depth(inner) {
			return join(left, left.left, join(mid, inner, right))
		}
		return join(inner, join(left, left.left, inner.left), join(mid, inner.right, right))
	case -2:
		inner := right.left
		if depth(right.right) >= depth(inner) {
			return join(right, join(mid, left, inner), right.right)
		}
		return join(inner, join(mid, left, inner.left), join(right, inner.right, right.right))
	}
	return join(mid, left, right)
}

// join is a new node of mid's key and value between two trees.
func join[V any](mid, left, right *node[V]) *node[V] {
	return &node[V]{key: mid.key, value: mid.value, left: left, right: right, depth: 1 + max(depth(left), depth(right))}
}

// nodes are those of a tree, rising by their keys.
func nodes[V any](n *node[V]) iter.Seq[*node[V]] {
	return func(yield func(*node[V]) bool) { walk(n, yield) }
}

// walk tells whether the tree was gone through whole.
func walk[V any](n *node[V], yield func(*node[V]) bool) bool {
	return n == nil || walk(n.left, yield) && yield(n) && walk(n.right, yield)
}
