package engine

import (
	"cmp"
	"iter"

	"fibshift/api"
	"fibshift/ordered"
	"fibshift/prefix"
)

// Ranges keeps the routes, and beside them which route each stretch of addresses has.
type Ranges struct {
	routes *List
	// stretches has, under its first address, the route of each longest stretch; one without Next stands for none.
	stretches *ordered.Store[int, api.Route]
}

// NewRanges makes a Ranges without routes.
func NewRanges() *Ranges {
	g := &Ranges{routes: NewList(), stretches: ordered.New[int, api.Route](cmp.Compare[int])}
	g.redraw(prefix.First())
	return g
}

// Lay lays a route.
func (g *Ranges) Lay(r api.Route) int {
	old := g.routes.Lay(r)
	g.redraw(prefix.Of(r))
	return old
}

// Take takes a route away.
func (g *Ranges) Take(p api.Prefix) int {
	old := g.routes.Take(p)
	g.redraw(p)
	return old
}

// Best finds the route of an address.
func (g *Ranges) Best(addr int) (api.Route, bool) {
	r, _ := g.stretches.Last(addr)
	return r, r.Next != 0
}

// From goes through the routes.
func (g *Ranges) From(p api.Prefix) iter.Seq[api.Route] { return g.routes.From(p) }

// Cells counts one for each route, and one for each stretch.
func (g *Ranges) Cells() int { return g.routes.Cells() + g.stretches.Len() }

// redraw finds the stretches anew where the route of p is of matter: that is up to the address behind p, where
// one may begin because p ends.
func (g *Ranges) redraw(p api.Prefix) {
	for addr := p.Addr; addr <= prefix.Behind(p) && prefix.IsAddress(addr); addr++ {
		r, _ := g.routes.Best(addr)
		if g.goesOn(addr, r) {
			g.stretches.Remove(addr)
		} else {
			g.stretches.Put(addr, r)
		}
	}
}

// goesOn tells whether the stretch ahead of an address has the route r, too.
func (g *Ranges) goesOn(addr int, r api.Route) bool {
	ahead, found := g.stretches.Last(addr - 1)
	return found && ahead == r
}
