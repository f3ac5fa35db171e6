// Package engine: the ways to keep routes.
package engine

import (
	"iter"

	"fibshift/api"
	"fibshift/prefix"
)

// Engine keeps routes, at most one for each prefix. What is handed to it are prefixes, routes and addresses:
// it does not ask whether they are.
type Engine interface {
	// Lay lays a route, in place of one of its prefix; it answers that one's Next, or 0 if there was none.
	Lay(r api.Route) int
	// Take takes the route of a prefix away; it answers its Next, or 0 if there was none.
	Take(p api.Prefix) int
	// Best finds the route of an address, and whether it has one.
	Best(addr int) (api.Route, bool)
	// From goes in their order through the routes whose prefix is p, or ordered behind it. The engine may not be
	// changed meanwhile.
	From(p api.Prefix) iter.Seq[api.Route]
	// Cells counts the cells that the routes need.
	Cells() int
}

// New makes an engine of that kind, without routes; it is nil if there is no such kind.
func New(kind int) Engine {
	switch kind {
	case api.List:
		return NewList()
	case api.Trie:
		return NewTrie()
	case api.Ranges:
		return NewRanges()
	}
	return nil
}

// Kind tells which of the kinds an engine is, or 0 if it is none of them.
func Kind(e Engine) int {
	switch e.(type) {
	case *List:
		return api.List
	case *Trie:
		return api.Trie
	case *Ranges:
		return api.Ranges
	}
	return 0
}

// Next tells the Next of the route of a prefix, or 0 if there is none.
func Next(e Engine, p api.Prefix) int {
	for r := range e.From(p) {
		if prefix.Of(r) == p {
			return r.Next
		}
		break
	}
	return 0
}

// Set lays the route of a prefix, or takes it away if next is 0; it answers the Next that was there, or 0.
func Set(e Engine, p api.Prefix, next int) int {
	if next == 0 {
		return e.Take(p)
	}
	return e.Lay(route(p, next))
}

func route(p api.Prefix, next int) api.Route {
	return api.Route{Addr: p.Addr, Len: p.Len, Next: next}
}
