// Package fibshift: a table of routes that moves from one engine to another while it works: see DOC.md.
package fibshift

import (
	"fibshift/api"
	"fibshift/engine"
	"fibshift/prefix"
)

// Table of routes.
type Table struct {
	routes   engine.Engine
	budget   int
	chunk    int
	logLimit int
	// move is nil if the table does not move.
	move  *move
	moves int
	backs int
}

// New makes a table (P3).
func New(c api.Config) (*Table, api.Errno) {
	if !isConfig(c) {
		return nil, api.ErrConfig
	}
	return &Table{routes: engine.New(c.Engine), budget: c.Budget, chunk: c.Chunk, logLimit: c.Log}, api.OK
}

// Add lays a route (P5).
func (t *Table) Add(p api.Prefix, next int) api.Errno {
	if !prefix.Valid(p) {
		return api.ErrPrefix
	}
	// Apply would take a Next of 0 for a route to be taken away.
	if !isNext(next) {
		return api.ErrNext
	}
	return t.applyOne(p, next)
}

// Delete takes a route away (P5).
func (t *Table) Delete(p api.Prefix) api.Errno { return t.applyOne(p, 0) }

// Apply makes several changes, or none (P4).
func (t *Table) Apply(l []api.Change) (int, api.Errno) {
	if len(l) > api.MaxBatch {
		return 0, api.ErrMany
	}
	before := t.Cells()
	made := batch{routes: t.routes}
	for i, c := range l {
		if e := made.change(c); e != api.OK {
			made.takeBack()
			return i, e
		}
	}
	// Copy and log are not asked for: they give way to the routes.
	if t.isOver(before.Active, t.routes.Cells()) {
		made.takeBack()
		return len(l), api.ErrRoom
	}
	t.follow(l, inUse(before))
	return len(l), api.OK
}

// Get tells a route's Next (P6).
func (t *Table) Get(p api.Prefix) (int, api.Errno) {
	if !prefix.Valid(p) {
		return 0, api.ErrPrefix
	}
	next := engine.Next(t.routes, p)
	if next == 0 {
		return 0, api.ErrNone
	}
	return next, api.OK
}

// Lookup tells an address's route (P6).
func (t *Table) Lookup(addr int) (api.Route, api.Errno) {
	if !prefix.IsAddress(addr) {
		return api.Route{}, api.ErrAddr
	}
	r, found := t.routes.Best(addr)
	if !found {
		return api.Route{}, api.ErrNone
	}
	return r, api.OK
}

// Page tells some routes, in their order (P7).
func (t *Table) Page(from api.Prefix, n int) ([]api.Route, api.Errno) {
	if !prefix.Valid(from) {
		return nil, api.ErrPrefix
	}
	if n < 0 || n > api.MaxPage {
		return nil, api.ErrArg
	}
	var page []api.Route
	for r := range t.routes.From(from) {
		if len(page) == n {
			break
		}
		page = append(page, r)
	}
	return page, api.OK
}

// SetBudget turns the budget (P8).
func (t *Table) SetBudget(n int) api.Errno {
	if !isBudget(n) {
		return api.ErrArg
	}
	t.budget = n
	return api.OK
}

// Cells tells the cells in use (P8).
func (t *Table) Cells() api.Cells {
	c := api.Cells{Active: t.routes.Cells(), Budget: t.budget}
	if t.move != nil {
		c.Target = t.move.copy.Cells()
		c.Logged = t.move.log.size()
	}
	return c
}

// Advise tells an engine (P9).
func (t *Table) Advise() int {
	all, long := 0, 0
	for r := range t.routes.From(prefix.First()) {
		all++
		if r.Len >= longLen {
			long++
		}
	}
	switch {
	case all <= fewRoutes:
		return api.List
	case 2*long > all:
		return api.Trie
	}
	return api.Ranges
}

// Move begins a move (P10).
func (t *Table) Move(kind int) api.Errno {
	empty := engine.New(kind)
	if empty == nil {
		return api.ErrKind
	}
	if t.move != nil {
		return api.ErrBusy
	}
	if kind == engine.Kind(t.routes) {
		return api.ErrSame
	}
	active := t.routes.Cells()
	if t.isOver(active, active+empty.Cells()) {
		return api.ErrRoom
	}
	t.move = newMove(empty)
	return api.OK
}

// Step makes a piece of a move (P11).
func (t *Table) Step() int {
	switch {
	case t.move == nil:
		return api.Idle
	case t.move.phase == api.Copying:
		return t.copyChunk()
	}
	return t.catchChunk()
}

// Abort rolls back (P13).
func (t *Table) Abort() api.Errno {
	if t.move == nil {
		return api.ErrIdle
	}
	t.rollBack()
	return api.OK
}

// State tells how it stands (P14).
func (t *Table) State() api.State {
	s := api.State{Engine: engine.Kind(t.routes), Moves: t.moves, Backs: t.backs}
	if t.move != nil {
		s.Target = engine.Kind(t.move.copy)
		s.Phase = t.move.phase
		s.Copied = t.move.copied
	}
	return s
}

// What Advise holds the routes against.
const (
	fewRoutes = 8
	longLen   = 5
)

// applyOne makes one change; its place says nothing, so that the error alone is told.
func (t *Table) applyOne(p api.Prefix, next int) api.Errno {
	_, e := t.Apply([]api.Change{{Addr: p.Addr, Len: p.Len, Next: next}})
	return e
}

// isOver tells whether a change goes over the budget.
func (t *Table) isOver(before, after int) bool {
	return after > t.budget && after > before
}

func isConfig(c api.Config) bool {
	return api.List <= c.Engine && c.Engine <= api.Ranges && isBudget(c.Budget) &&
		1 <= c.Chunk && c.Chunk <= api.MaxChunk && 1 <= c.Log && c.Log <= api.MaxLog
}

func isBudget(n int) bool { return 1 <= n && n <= api.MaxBudget }

func isNext(n int) bool { return 1 <= n && n <= api.MaxNext }
