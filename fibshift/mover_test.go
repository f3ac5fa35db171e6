package fibshift_test

import (
	"slices"
	"testing"

	"fibshift/api"
	"fibshift/fibshift"
)

// mover is a model that moves, as the document's words do.
type mover struct {
	model
	chunk, limit int
	to, phase    int          // 0: it does not move
	cursor       []api.Prefix // one, or none
	copy         map[api.Prefix]int
	log          []api.Prefix
	copied       int
	moves, backs int
	seen         map[string]int // how often what was come upon
}

func (m *mover) told() api.Cells {
	c := api.Cells{Active: m.cells(), Budget: m.budget}
	if m.to != 0 {
		c.Target = (&model{kind: m.to, routes: m.copy}).cells()
		c.Logged = len(m.log)
	}
	return c
}

func (m *mover) inUse() int {
	c := m.told()
	return c.Active + c.Target + c.Logged
}

func (m *mover) state() api.State {
	return api.State{Engine: m.kind, Target: m.to, Phase: m.phase, Copied: m.copied, Moves: m.moves, Backs: m.backs}
}

// goesOver makes a change.
func (m *mover) goesOver(change func()) bool {
	ahead := m.inUse()
	change()
	behind := m.inUse()
	if behind == m.budget && behind > ahead {
		m.seen["just at the budget"]++
	}
	if behind > m.budget && behind <= ahead {
		m.seen["above the budget, and not over"]++
	}
	return behind > m.budget && behind > ahead
}

func (m *mover) stop(why string) {
	m.seen[why]++
	m.to, m.phase, m.copied = 0, 0, 0
	m.cursor, m.copy, m.log = nil, nil, nil
}

func (m *mover) back(why string) int {
	m.stop(why)
	m.backs++
	return api.Back
}

func (m *mover) move(kind int) api.Errno {
	switch {
	case kind < 1 || kind > 3:
		return api.ErrKind
	case m.to != 0:
		return api.ErrBusy
	case kind == m.kind:
		return api.ErrSame
	}
	if m.goesOver(func() { m.to, m.copy = kind, map[api.Prefix]int{} }) {
		m.stop("no room to move")
		return api.ErrRoom
	}
	m.phase = api.Copying
	return api.OK
}

func (m *mover) step() int {
	if m.to == 0 {
		return api.Idle
	}
	if m.phase == api.Catching {
		return m.stepCatching()
	}
	behind := m.page(px(0, 0), 511)
	if len(m.cursor) > 0 {
		behind = slices.DeleteFunc(behind, func(r api.Route) bool { return isAtOrAhead(prefixOf(r), m.cursor[0]) })
	}
	chunk := behind[:min(m.chunk, len(behind))]
	for _, r := range chunk {
		if m.goesOver(func() { m.copy[prefixOf(r)] = r.Next }) {
			return m.back("copying goes over")
		}
		m.copied++
		m.cursor = []api.Prefix{prefixOf(r)}
	}
	if len(chunk) < m.chunk {
		m.phase = api.Catching
	}
	return api.Copied
}

func (m *mover) stepCatching() int {
	for range min(m.chunk, len(m.log)) {
		p := m.log[0]
		if m.goesOver(func() {
			m.log = m.log[1:]
			delete(m.copy, p)
			if next := m.routes[p]; next != 0 {
				m.copy[p] = next
			}
		}) {
			return m.back("catching up goes over")
		}
	}
	if len(m.log) > 0 {
		m.seen["caught"]++
		return api.Caught
	}
	m.kind, m.routes = m.to, m.copy
	m.stop("cut")
	m.moves++
	return api.Cut
}

func (m *mover) apply(l []api.Change) (int, api.Errno) {
	var n int
	var e api.Errno
	over := m.goesOver(func() {
		n, e = m.model.apply(l)
		if e == api.OK && m.to != 0 {
			m.note(l)
		}
	})
	switch {
	case e != api.OK || m.to == 0:
	case len(m.log) > m.limit:
		m.back("the log is full")
	case over:
		m.back("a call goes over")
	}
	return n, e
}

func (m *mover) note(l []api.Change) {
	for _, c := range l {
		p := px(c.Addr, c.Len)
		isIt := m.phase == api.Catching || len(m.cursor) > 0 && isAtOrAhead(p, m.cursor[0])
		if isIt && !slices.Contains(m.log, p) {
			m.log = append(slices.Clone(m.log), p)
		}
	}
}

func (m *mover) abort() api.Errno {
	if m.to == 0 {
		return api.ErrIdle
	}
	m.back("abort")
	return api.OK
}

func TestMovingAnswersAsTheModelDoes(t *testing.T) {
	seen := map[string]int{}
	inEach(t, func(t *testing.T, kind int) {
		for seed := range 60 {
			d := dice(seed)
			m := &mover{model: model{kind: kind, routes: map[api.Prefix]int{}, budget: 400}, seen: seen}
			m.chunk, m.limit = 1+d.below(8), 1+d.below(16)
			x := tableOf(t, api.Config{Engine: kind, Budget: 400, Chunk: m.chunk, Log: m.limit})
			for range 200 {
				doBoth(t, x, m, &d)
				wantMover(t, x, m, &d)
				if t.Failed() {
					t.Fatalf("seed %d", seed)
				}
			}
		}
	})
	for _, what := range []string{"no room to move", "copying goes over", "catching up goes over", "caught", "cut", "the log is full", "a call goes over", "abort", "just at the budget", "above the budget, and not over"} {
		if seen[what] < 20 {
			t.Errorf("%s: seen only %d times", what, seen[what])
		}
	}
}

func doBoth(t *testing.T, x *fibshift.Table, m *mover, d *dice) {
	t.Helper()
	switch n := d.below(40); {
	case n == 0:
		wantErr(t, "Abort", x.Abort(), m.abort())
	case n < 4 || len(m.log) > 0 && m.phase == api.Catching && n < 12:
		// Near what is in use, below it and above it, or far above it.
		m.budget = min(max(1, m.inUse()+d.below(14)-9), 400)
		if m.phase != api.Catching && d.below(4) > 0 {
			m.budget = 400
		}
		wantErr(t, "SetBudget", x.SetBudget(m.budget), api.OK)
	case n < 9:
		kind := d.below(5)
		wantErr(t, "Move", x.Move(kind), m.move(kind))
	case n < 24:
		wantSteps(t, x, m.step())
	default:
		l := d.fewChanges(m)
		n, e := m.apply(l)
		wantApply(t, x, n, e, l...)
	}
}

// fewChanges are of routes that are there, or, the more so the later it is in a move, of any; there are many only now and then.
func (d *dice) fewChanges(m *mover) []api.Change {
	many := 1 + d.below(3)
	if d.below(8) == 0 {
		many = d.below(18)
	}
	var l []api.Change
	for range many {
		c := d.change()
		if near := m.page(d.prefix(), 1); len(near) > 0 && d.below(4) > m.phase {
			c = api.Change(near[0])
			c.Next = d.below(3)
		}
		l = append(l, c)
	}
	return l
}

func wantMover(t *testing.T, x *fibshift.Table, m *mover, d *dice) {
	t.Helper()
	wantRoutes(t, x, m.page(px(0, 0), 511)...)
	wantState(t, x, m.state())
	if got, want := x.Cells(), m.told(); got != want {
		t.Errorf("Cells = %+v, want %+v", got, want)
	}
	if got, want := x.Advise(), m.advise(); got != want {
		t.Errorf("Advise = %d, want %d", got, want)
	}
	addr := d.below(256)
	r, e := m.lookup(addr)
	wantBest(t, x, addr, r, e)
}
