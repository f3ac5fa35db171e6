package engine

import (
	"iter"

	"fibshift/api"
	"fibshift/prefix"
)

// Trie keeps the routes in a tree: a node stands for a prefix, and those below it for its halves.
type Trie struct {
	root node
}

// node has a Next of 0 if its prefix has no route.
type node struct {
	next  int
	below [2]*node
}

// NewTrie makes a Trie without routes.
func NewTrie() *Trie { return &Trie{} }

// Lay lays a route.
func (t *Trie) Lay(r api.Route) int {
	n := &t.root
	for length := range r.Len {
		n = n.half(prefix.Side(r.Addr, length))
	}
	old := n.next
	n.next = r.Next
	return old
}

// Take takes a route away.
func (t *Trie) Take(p api.Prefix) int { return t.root.take(p, 0) }

// Best finds the route of an address.
func (t *Trie) Best(addr int) (api.Route, bool) {
	best := api.Route{}
	n := &t.root
	for length := 0; n != nil; length++ {
		if n.next != 0 {
			best = route(prefix.Covering(addr, length), n.next)
		}
		// A node of the last length has no halves.
		if length == api.Bits {
			break
		}
		n = n.below[prefix.Side(addr, length)]
	}
	return best, best.Next != 0
}

// From goes through the routes.
func (t *Trie) From(p api.Prefix) iter.Seq[api.Route] {
	return func(yield func(api.Route) bool) {
		t.root.walk(prefix.First(), p, yield)
	}
}

// Cells counts the nodes.
func (t *Trie) Cells() int { return t.root.count() }

// half tells the node of a half; it makes it, if there is none.
func (n *node) half(side int) *node {
	if n.below[side] == nil {
		n.below[side] = &node{}
	}
	return n.below[side]
}

// take takes the route of p away, which is the node's own prefix, of that length, or lies within it.
func (n *node) take(p api.Prefix, length int) int {
	if length == p.Len {
		old := n.next
		n.next = 0
		return old
	}
	side := prefix.Side(p.Addr, length)
	half := n.below[side]
	if half == nil {
		return 0
	}
	old := half.take(p, length+1)
	// A node that no route needs any more is no cell.
	if *half == (node{}) {
		n.below[side] = nil
	}
	return old
}

// walk goes through the routes of the node, whose prefix is at, and of those below it, that are from or ordered
// behind it. It tells whether to go on.
func (n *node) walk(at, from api.Prefix, yield func(api.Route) bool) bool {
	// What lies within a prefix that ends ahead of from is ordered ahead of it too.
	if prefix.Behind(at) <= from.Addr {
		return true
	}
	if n.next != 0 && prefix.Compare(at, from) >= 0 && !yield(route(at, n.next)) {
		return false
	}
	for side, half := range n.below {
		if half != nil && !half.walk(prefix.Half(at, side), from, yield) {
			return false
		}
	}
	return true
}

// count counts the node and those below it.
func (n *node) count() int {
	sum := 1
	for _, half := range n.below {
		if half != nil {
			sum += half.count()
		}
	}
	return sum
}
