package engine

import (
	"iter"

	"fibshift/api"
	"fibshift/ordered"
	"fibshift/prefix"
)

// List keeps the routes one behind the other, in the order of their prefixes.
type List struct {
	nexts *ordered.Store[api.Prefix, int]
}

// NewList makes a List without routes.
func NewList() *List {
	return &List{nexts: ordered.New[api.Prefix, int](prefix.Compare)}
}

// Lay lays a route.
func (l *List) Lay(r api.Route) int {
	old, _ := l.nexts.Put(prefix.Of(r), r.Next)
	return old
}

// Take takes a route away.
func (l *List) Take(p api.Prefix) int {
	old, _ := l.nexts.Remove(p)
	return old
}

// Best finds the route of an address.
func (l *List) Best(addr int) (api.Route, bool) {
	for length := api.Bits; length >= 0; length-- {
		p := prefix.Covering(addr, length)
		if next, found := l.nexts.Get(p); found {
			return route(p, next), true
		}
	}
	return api.Route{}, false
}

// From goes through the routes.
func (l *List) From(p api.Prefix) iter.Seq[api.Route] {
	return func(yield func(api.Route) bool) {
		for q, next := range l.nexts.From(p) {
			if !yield(route(q, next)) {
				return
			}
		}
	}
}

// Cells counts one for each route.
func (l *List) Cells() int { return l.nexts.Len() }
