package fibshift_test

import (
	"testing"

	"fibshift/api"
	"fibshift/fibshift"
)

// wantLogged asks how many prefixes the log of a table that moves has.
func wantLogged(t *testing.T, x *fibshift.Table, want int) {
	t.Helper()
	if x.State().Target == 0 {
		t.Errorf("the table does not move: %+v", x.State())
	}
	if got := x.Cells().Logged; got != want {
		t.Errorf("%d prefixes are logged, want %d", got, want)
	}
}

// isAtOrAhead tells whether p is q, or ordered ahead of it.
func isAtOrAhead(p, q api.Prefix) bool {
	return p.Addr < q.Addr || p.Addr == q.Addr && p.Len <= q.Len
}

func TestP12WhatIsLoggedWhileCopying(t *testing.T) {
	in := six()
	betweenAny(t, func(t *testing.T, from, to int) {
		for copied := range len(in) + 1 {
			x := moving(t, from, to, 1, 1, in...)
			for range copied {
				wantSteps(t, x, api.Copied)
			}
			// Those behind the cursor first, so that they are seen not to join.
			logged := 0
			for _, addr := range []int{255, 201, 200, 199, 129, 128, 127, 21, 20, 19, 16, 15, 0} {
				for length := api.Bits; length >= 0 && logged == 0; length-- {
					p := px(addr&^(256>>length-1), length)
					if copied > 0 && isAtOrAhead(p, prefixOf(in[copied-1])) {
						logged = 1
					}
					old, _ := x.Get(p)
					wantErr(t, "Add", x.Add(p, 9), api.OK)
					wantLogged(t, x, logged)
					if old == 0 {
						wantErr(t, "Delete", x.Delete(p), api.OK)
						wantLogged(t, x, logged)
					}
				}
			}
			if (logged == 1) != (copied > 0) {
				t.Errorf("%d are copied, and %d is logged", copied, logged)
			}
		}
	})
}

func TestP12ChangesOfTheCursorsOwnPrefix(t *testing.T) {
	betweenAny(t, func(t *testing.T, from, to int) {
		// The cursor is at 128, Len 2: 128, Len 1 is ahead of it, and 128, Len 3 behind it.
		x := moving(t, from, to, 2, 4, rt(128, 1, 1), rt(128, 2, 2), rt(128, 3, 3))
		wantSteps(t, x, api.Copied)
		wantErr(t, "Add", x.Add(px(128, 3), 9), api.OK)
		wantLogged(t, x, 0)
		wantErr(t, "Add", x.Add(px(128, 2), 8), api.OK)
		wantLogged(t, x, 1)
		wantErr(t, "Add", x.Add(px(128, 1), 7), api.OK)
		wantLogged(t, x, 2)
		wantErr(t, "Delete", x.Delete(px(128, 2)), api.OK)
		wantLogged(t, x, 2)
		wantErr(t, "Add", x.Add(px(192, 2), 6), api.OK)
		wantLogged(t, x, 2)
		wantErr(t, "Add", x.Add(px(127, 8), 5), api.OK)
		wantLogged(t, x, 3)
		wantSteps(t, x, api.Copied, api.Copied, api.Caught, api.Cut)
		wantRoutes(t, x, rt(127, 8, 5), rt(128, 1, 7), rt(128, 3, 9), rt(192, 2, 6))
	})
}

func TestP12WhileCatchingEachChangeIsLogged(t *testing.T) {
	betweenAny(t, func(t *testing.T, from, to int) {
		for _, c := range []api.Change{lay(0, 0, 9), lay(0, 0, 1), take(0, 0), lay(255, 8, 1), lay(128, 1, 5), lay(200, 8, 7)} {
			x := catching(t, from, to, 4, 1, six()...)
			wantApply(t, x, 1, api.OK, c)
			wantLogged(t, x, 1)
			want := routesOf(t, x)
			wantSteps(t, x, api.Cut)
			wantRoutes(t, x, want...)
		}
	})
}

func TestP12APrefixThatIsChangedTwiceIsLoggedOnce(t *testing.T) {
	betweenAny(t, func(t *testing.T, from, to int) {
		x := catching(t, from, to, 2, 2, rt(0, 0, 1), rt(128, 1, 2))
		wantApply(t, x, 4, api.OK, lay(0, 0, 3), take(0, 0), lay(0, 0, 4), lay(0, 0, 5))
		wantLogged(t, x, 1)
		wantErr(t, "Delete", x.Delete(px(0, 0)), api.OK)
		wantLogged(t, x, 1)
		// One that came and went is logged too, and nothing is caught up for it.
		wantApply(t, x, 4, api.OK, lay(64, 2, 3), take(64, 2), lay(64, 2, 4), take(64, 2))
		wantLogged(t, x, 2)
		wantErr(t, "Add", x.Add(px(0, 0), 6), api.OK)
		wantLogged(t, x, 2)
		wantSteps(t, x, api.Cut)
		wantRoutes(t, x, rt(0, 0, 6), rt(128, 1, 2))
		wantUse(t, x, need(to, rt(0, 0, 6), rt(128, 1, 2)), 0, 0)
	})
}

func TestP12TheLogAtItsLimitAndOneAboveIt(t *testing.T) { // example 8
	l := make([]api.Change, api.MaxBatch)
	for i := range l {
		l[i] = lay(i, 8, 7)
	}
	betweenAny(t, func(t *testing.T, from, to int) {
		for limit := 1; limit <= api.MaxLog; limit++ {
			// In one call, and in several.
			x := catching(t, from, to, 8, limit)
			wantApply(t, x, limit, api.OK, l[:limit]...)
			wantLogged(t, x, limit)
			wantApply(t, x, limit, api.OK, l[:limit]...)
			wantLogged(t, x, limit)
			wantErr(t, "Add above the log's limit", x.Add(px(99, 8), 1), api.OK)
			wantRolledBack(t, x, from, limit+1)

			y := catching(t, from, to, 8, limit)
			for i, c := range l[:limit] {
				wantApply(t, y, 1, api.OK, c)
				wantLogged(t, y, i+1)
			}
			wantApply(t, y, 2, api.OK, lay(98, 8, 1), take(98, 8))
			wantRolledBack(t, y, from, limit)

			if limit < api.MaxBatch {
				z := catching(t, from, to, 8, limit)
				wantApply(t, z, limit+1, api.OK, l[:limit+1]...)
				wantRolledBack(t, z, from, limit+1)
			}
		}
	})
}

func wantRolledBack(t *testing.T, x *fibshift.Table, kind, routes int) {
	t.Helper()
	wantState(t, x, api.State{Engine: kind, Backs: 1})
	in := routesOf(t, x)
	if len(in) != routes {
		t.Errorf("%d routes, want %d", len(in), routes)
	}
	wantUse(t, x, need(kind, in...), 0, 0)
	wantErr(t, "Abort", x.Abort(), api.ErrIdle)
	wantSteps(t, x, api.Idle)
}

func TestP12TheLogsLimitWhileCopying(t *testing.T) { // example 8
	betweenAny(t, func(t *testing.T, from, to int) {
		x := moving(t, from, to, 2, 1, rt(10, 8, 1), rt(20, 8, 2), rt(30, 8, 3))
		wantSteps(t, x, api.Copied)
		wantErr(t, "Delete", x.Delete(px(10, 8)), api.OK)
		wantLogged(t, x, 1)
		// Those behind the cursor are not for the log.
		wantApply(t, x, 3, api.OK, lay(21, 8, 4), lay(40, 8, 5), take(30, 8))
		wantLogged(t, x, 1)
		wantErr(t, "Delete", x.Delete(px(20, 8)), api.OK)
		wantState(t, x, api.State{Engine: from, Backs: 1})
		in := []api.Route{rt(21, 8, 4), rt(40, 8, 5)}
		wantRoutes(t, x, in...)
		wantUse(t, x, need(from, in...), 0, 0)
	})
}

func TestP12ABatchThatCannotBeMadeChangesNothing(t *testing.T) {
	in := six()
	betweenAny(t, func(t *testing.T, from, to int) {
		for _, steps := range []int{0, 1, 3, 7} {
			x := moving(t, from, to, 1, 2, in...)
			for range steps {
				wantSteps(t, x, api.Copied)
			}
			if steps > 0 {
				wantErr(t, "Add", x.Add(px(0, 0), 8), api.OK)
				wantLogged(t, x, 1)
			}
			was := lookOf(t, x)
			// More than the log would take, and one that can't be behind them.
			l := []api.Change{lay(0, 0, 9), take(0, 1), lay(16, 4, 9), lay(0, 8, 9), lay(1, 8, 9)}
			wantApply(t, x, 5, api.ErrNone, append(l, take(255, 8))...)
			wantApply(t, x, 5, api.ErrPrefix, append(l, lay(1, 7, 1))...)
			wantApply(t, x, 5, api.ErrNext, append(l, lay(0, 0, 256))...)
			wantApply(t, x, 0, api.ErrMany, make([]api.Change, 17)...)
			wantErr(t, "Add", x.Add(px(0, 0), 0), api.ErrNext)
			wantErr(t, "Delete", x.Delete(px(0, 8)), api.ErrNone)
			wantLook(t, x, was)
			wantBudget(t, x, need(from, in...))
			was = lookOf(t, x)
			wantApply(t, x, 5, api.ErrRoom, l...)
			wantErr(t, "Add", x.Add(px(0, 8), 1), api.ErrRoom)
			wantLook(t, x, was)
			wantBudget(t, x, api.MaxBudget)
			for range 9 {
				x.Step()
			}
			wantState(t, x, api.State{Engine: to, Moves: 1})
			wantRoutes(t, x, was.routes...)
		}
	})
}

func TestP12ACallAtTheBudgetsEdge(t *testing.T) {
	in := six()
	calls := [][]api.Change{
		{lay(0, 0, 9)}, {lay(20, 8, 9)}, {lay(255, 8, 9)}, {take(0, 0)}, {take(20, 8)}, {take(200, 8)}, {lay(0, 8, 1)},
		{take(0, 0), lay(0, 0, 1)}, {take(16, 4), lay(24, 5, 1)}, {take(0, 1), take(20, 8)}, {take(200, 8), lay(201, 8, 1), lay(202, 8, 1)},
		{lay(0, 2, 1), lay(0, 3, 1), lay(255, 8, 1)}, {},
	}
	betweenAny(t, func(t *testing.T, from, to int) {
		for _, steps := range []int{0, 1, 3, 4} {
			for _, l := range calls {
				for budget := 1; budget <= 60; budget++ {
					x := moving(t, from, to, 2, 8, in...)
					for range steps {
						wantSteps(t, x, api.Copied)
					}
					wantBudget(t, x, budget)
					callAtBudget(t, x, from, in, l)
				}
			}
		}
	})
}

// callAtBudget makes a call, and asks for what the document says of it at that budget.
func callAtBudget(t *testing.T, x *fibshift.Table, from int, in []api.Route, l []api.Change) {
	t.Helper()
	m := &model{kind: from, routes: map[api.Prefix]int{}, budget: x.Cells().Budget}
	for _, r := range in {
		m.routes[prefixOf(r)] = r.Next
	}
	ahead, s := x.Cells(), x.State()
	n, e := m.apply(l)
	wantApply(t, x, n, e, l...)
	wantRoutes(t, x, m.page(px(0, 0), 511)...)
	joined := map[api.Prefix]int{}
	for _, c := range l {
		p := px(c.Addr, c.Len)
		if e == api.OK && (s.Phase == api.Catching || s.Copied > 0 && isAtOrAhead(p, prefixOf(in[s.Copied-1]))) {
			joined[p] = 1
		}
	}
	logged := len(joined)
	behind := m.cells() + ahead.Target + logged
	if behind > ahead.Budget && behind > ahead.Active+ahead.Target {
		s = api.State{Engine: from, Backs: 1}
		logged, ahead.Target = 0, 0
	}
	wantState(t, x, s)
	wantUse(t, x, m.cells(), ahead.Target, logged)
}

func TestP12ACallWithNumbers(t *testing.T) {
	// 3 routes, and a copy of 3: a change of a copied one needs the seventh cell.
	for budget, back := range map[int]int{5: 1, 6: 1, 7: 0, 8: 0} {
		x := catching(t, api.List, api.Trie, 4, 4, rt(0, 0, 1), rt(0, 1, 2), rt(128, 1, 3))
		wantUse(t, x, 3, 3, 0)
		wantBudget(t, x, budget)
		wantErr(t, "Add of one that is there", x.Add(px(0, 1), 9), api.OK)
		wantRoutes(t, x, rt(0, 0, 1), rt(0, 1, 9), rt(128, 1, 3))
		if n := x.State().Backs; n != back {
			t.Errorf("budget %d: Backs %d", budget, n)
		}
		// A new one needs two: that of its route, and that of the log.
		y := catching(t, api.List, api.Trie, 4, 4, rt(0, 0, 1), rt(0, 1, 2), rt(128, 1, 3))
		wantBudget(t, y, budget+1)
		wantErr(t, "Add", y.Add(px(255, 8), 9), api.OK)
		if n := y.State().Backs; n != back {
			t.Errorf("budget %d: Backs %d", budget+1, n)
		}
	}
}

func TestP12AboveTheBudgetAsManyCellsRollNothingBack(t *testing.T) {
	// One taken away is a cell less in a List, and one more in the log.
	x := catching(t, api.List, api.Trie, 4, 4, six()...)
	wantBudget(t, x, 1)
	wantErr(t, "Delete", x.Delete(px(20, 8)), api.OK)
	wantLogged(t, x, 1)
	wantApply(t, x, 2, api.OK, take(16, 4), take(200, 8))
	wantLogged(t, x, 3)
	// Another Next is no cell less for the one in the log.
	wantErr(t, "Add of one that is there", x.Add(px(0, 0), 7), api.OK)
	wantState(t, x, api.State{Engine: api.List, Backs: 1})
	wantRoutes(t, x, rt(0, 0, 7), rt(0, 1, 2), rt(128, 1, 5))
}

func TestP12ErrRoomDoesNotAskForCopyAndLog(t *testing.T) {
	betweenAny(t, func(t *testing.T, from, to int) {
		in := six()
		more := append(six(), rt(255, 8, 9))
		for _, budget := range []int{need(from, more...) - 1, need(from, more...), need(from, more...) + 1} {
			x := catching(t, from, to, 4, 4, in...)
			wantBudget(t, x, budget)
			was := lookOf(t, x)
			if budget < need(from, more...) {
				wantErr(t, "Add without room", x.Add(px(255, 8), 9), api.ErrRoom)
				wantLook(t, x, was)
				continue
			}
			wantErr(t, "Add", x.Add(px(255, 8), 9), api.OK)
			wantState(t, x, api.State{Engine: from, Backs: 1})
			wantUse(t, x, need(from, more...), 0, 0)
			wantRoutes(t, x, more...)
		}
	})
}
