package fibshift

import (
	"fibshift/api"
	"fibshift/engine"
	"fibshift/prefix"
)

// move is what a table has beside its routes while it moves.
type move struct {
	copy   engine.Engine
	phase  int
	copied int
	// cursor is the prefix of the last copied route. Until one was copied there is none: this is then the first
	// prefix, for the copying to begin at.
	cursor api.Prefix
	log    *log
}

func newMove(empty engine.Engine) *move {
	return &move{copy: empty, phase: api.Copying, cursor: prefix.First(), log: newLog()}
}

// isPassed tells whether a prefix is the cursor, or ordered ahead of it.
func (m *move) isPassed(p api.Prefix) bool {
	return m.copied > 0 && prefix.Compare(p, m.cursor) <= 0
}

// lay copies a route.
func (m *move) lay(r api.Route) {
	m.copy.Lay(r)
	m.copied++
	m.cursor = prefix.Of(r)
}

// note logs the prefix of a change, if the copy would not get to it otherwise.
func (m *move) note(p api.Prefix) {
	if m.phase == api.Catching || m.isPassed(p) {
		m.log.join(p)
	}
}

// catchUp gives the copy what the routes have for the first prefix of the log.
func (m *move) catchUp(routes engine.Engine) {
	p := m.log.takeFirst()
	engine.Set(m.copy, p, engine.Next(routes, p))
}

// copyChunk makes a Step while Copying.
func (t *Table) copyChunk() int {
	laid := 0
	for r := range t.routes.From(t.move.cursor) {
		// The cursor's own route may still be there.
		if t.move.isPassed(prefix.Of(r)) {
			continue
		}
		if laid == t.chunk {
			break
		}
		if t.goesOver(func() { t.move.lay(r) }) {
			t.rollBack()
			return api.Back
		}
		laid++
	}
	if laid < t.chunk {
		t.move.phase = api.Catching
	}
	return api.Copied
}

// catchChunk makes a Step while Catching.
func (t *Table) catchChunk() int {
	for range min(t.chunk, t.move.log.size()) {
		if t.goesOver(func() { t.move.catchUp(t.routes) }) {
			t.rollBack()
			return api.Back
		}
	}
	if t.move.log.size() > 0 {
		return api.Caught
	}
	t.cutOver()
	return api.Cut
}

// follow logs the changes of a call, which are made; before is how many cells were in use ahead of it.
func (t *Table) follow(l []api.Change, before int) {
	if t.move == nil {
		return
	}
	for _, c := range l {
		t.move.note(prefixOf(c))
	}
	if t.move.log.size() > t.logLimit || t.isOver(before, inUse(t.Cells())) {
		t.rollBack()
	}
}

// goesOver makes a change of the copy or the log, and tells whether it goes over the budget. It is not taken back:
// who rolls back throws copy and log away.
func (t *Table) goesOver(change func()) bool {
	before := inUse(t.Cells())
	change()
	return t.isOver(before, inUse(t.Cells()))
}

func (t *Table) rollBack() {
	t.move = nil
	t.backs++
}

func (t *Table) cutOver() {
	t.routes = t.move.copy
	t.move = nil
	t.moves++
}

func inUse(c api.Cells) int { return c.Active + c.Target + c.Logged }
