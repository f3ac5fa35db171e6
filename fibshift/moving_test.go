package fibshift_test

import (
	"slices"
	"testing"

	"fibshift/api"
	"fibshift/fibshift"
)

// six routes, one within the other and beside it, in their order.
func six() []api.Route {
	return []api.Route{rt(0, 0, 1), rt(0, 1, 2), rt(16, 4, 3), rt(20, 8, 4), rt(128, 1, 5), rt(200, 8, 6)}
}

func TestP10TheErrorsOfMoveInTheirOrder(t *testing.T) { // example 9
	betweenAny(t, func(t *testing.T, from, to int) {
		// There is no room for anything, so that ErrRoom would apply as well.
		x := full(t, from, six()...)
		was := lookOf(t, x)
		for _, kind := range append(odd(), 4) {
			if kind < 1 || kind > 3 {
				wantErr(t, "Move to no engine", x.Move(kind), api.ErrKind)
			}
		}
		wantErr(t, "Move to its engine", x.Move(from), api.ErrSame)
		wantLook(t, x, was)

		wantBudget(t, x, api.MaxBudget)
		wantErr(t, "Move", x.Move(to), api.OK)
		wantSteps(t, x, api.Copied)
		wantErr(t, "Add", x.Add(px(0, 0), 9), api.OK)
		wantBudget(t, x, 1)
		was = lookOf(t, x)
		for _, kind := range append(odd(), 4) {
			if kind < 1 || kind > 3 {
				wantErr(t, "Move to no engine, of one that moves", x.Move(kind), api.ErrKind)
			}
		}
		for kind := 1; kind <= 3; kind++ {
			wantErr(t, "Move of one that moves", x.Move(kind), api.ErrBusy)
		}
		wantLook(t, x, was)
	})
}

func TestP10RoomForAnEmptyCopy(t *testing.T) {
	betweenAny(t, func(t *testing.T, from, to int) {
		for _, in := range [][]api.Route{nil, six()} {
			active := need(from, in...)
			empty := [...]int{0, 0, 1, 1}[to]
			for _, budget := range []int{1, active - 1, active, active + 1, active + 2} {
				if budget < 1 {
					continue
				}
				x := table(t, from, api.MaxBudget, in...)
				wantBudget(t, x, budget)
				was := lookOf(t, x)
				if active+empty > budget && empty > 0 {
					wantErr(t, "Move without room", x.Move(to), api.ErrRoom)
					wantLook(t, x, was)
					continue
				}
				wantErr(t, "Move", x.Move(to), api.OK)
				wantUse(t, x, active, empty, 0)
				wantState(t, x, api.State{Engine: from, Target: to, Phase: api.Copying})
			}
		}
	})
}

func TestP10EachMoveBeginsAnew(t *testing.T) {
	betweenAny(t, func(t *testing.T, from, to int) {
		x := catching(t, from, to, 8, 4, six()...)
		wantErr(t, "Add", x.Add(px(128, 1), 9), api.OK)
		wantErr(t, "Abort", x.Abort(), api.OK)
		for kind := 1; kind <= 3; kind++ {
			if kind == from {
				continue
			}
			wantErr(t, "Move", x.Move(kind), api.OK)
			wantUse(t, x, need(from, six()...), need(kind), 0)
			// Without a cursor no change is logged, not even that of the first prefix.
			wantErr(t, "Add", x.Add(px(0, 0), 9), api.OK)
			wantUse(t, x, need(from, six()...), need(kind), 0)
			wantState(t, x, api.State{Engine: from, Target: kind, Phase: api.Copying, Backs: x.State().Backs})
			wantSteps(t, x, api.Copied)
			wantUse(t, x, need(from, six()...), need(kind, six()...), 0)
			wantErr(t, "Abort", x.Abort(), api.OK)
		}
	})
}

func TestP11StepOfATableThatDoesNotMove(t *testing.T) {
	betweenAny(t, func(t *testing.T, from, to int) {
		x := table(t, from, api.MaxBudget, six()...)
		idle := func() {
			was := lookOf(t, x)
			wantSteps(t, x, api.Idle, api.Idle)
			wantLook(t, x, was)
		}
		idle()
		wantErr(t, "Move to its engine", x.Move(from), api.ErrSame)
		idle()
		wantErr(t, "Move", x.Move(to), api.OK)
		wantErr(t, "Abort", x.Abort(), api.OK)
		idle()
		wantErr(t, "Move", x.Move(to), api.OK)
		wantBudget(t, x, 1)
		// The route of Len 0 needs no cell more in a Trie; the one behind it does in each engine.
		wantSteps(t, x, api.Back)
		idle()
		wantBudget(t, x, api.MaxBudget)
		wantErr(t, "Move", x.Move(to), api.OK)
		wantSteps(t, x, api.Copied, api.Copied, api.Copied, api.Copied, api.Cut)
		idle()
	})
}

func TestP11AMoveWithChangesBetween(t *testing.T) { // example 7
	at := func(addrs ...int) []api.Route {
		var l []api.Route
		for _, addr := range addrs {
			l = append(l, rt(addr, 8, addr))
		}
		return l
	}
	betweenAny(t, func(t *testing.T, from, to int) {
		x := moving(t, from, to, 2, 4, at(10, 20, 30)...)
		wantUse(t, x, need(from, at(10, 20, 30)...), need(to), 0)
		wantSteps(t, x, api.Copied)
		wantState(t, x, api.State{Engine: from, Target: to, Phase: api.Copying, Copied: 2})
		wantUse(t, x, need(from, at(10, 20, 30)...), need(to, at(10, 20)...), 0)
		wantErr(t, "Delete", x.Delete(px(10, 8)), api.OK)
		wantUse(t, x, need(from, at(20, 30)...), need(to, at(10, 20)...), 1)
		wantErr(t, "Add", x.Add(px(25, 8), 25), api.OK)
		wantUse(t, x, need(from, at(20, 25, 30)...), need(to, at(10, 20)...), 1)
		wantSteps(t, x, api.Copied)
		wantState(t, x, api.State{Engine: from, Target: to, Phase: api.Copying, Copied: 4})
		wantUse(t, x, need(from, at(20, 25, 30)...), need(to, at(10, 20, 25, 30)...), 1)
		wantSteps(t, x, api.Copied)
		wantState(t, x, api.State{Engine: from, Target: to, Phase: api.Catching, Copied: 4})
		wantUse(t, x, need(from, at(20, 25, 30)...), need(to, at(10, 20, 25, 30)...), 1)
		wantSteps(t, x, api.Cut)
		wantState(t, x, api.State{Engine: to, Moves: 1})
		wantUse(t, x, need(to, at(20, 25, 30)...), 0, 0)
		wantRoutes(t, x, at(20, 25, 30)...)
		wantSteps(t, x, api.Idle)
	})
}

func TestP11ThreeChangedRoutesAreCaughtUpInTwoSteps(t *testing.T) { // example 7, its end
	betweenAny(t, func(t *testing.T, from, to int) {
		in := []api.Route{rt(10, 8, 1), rt(20, 8, 2), rt(30, 8, 3)}
		x := catching(t, from, to, 2, 4, in...)
		wantApply(t, x, 3, api.OK, lay(10, 8, 4), take(20, 8), lay(30, 8, 5))
		wantUse(t, x, need(from, in[0], in[2]), need(to, in...), 3)
		wantSteps(t, x, api.Caught)
		wantUse(t, x, need(from, in[0], in[2]), need(to, in[0], in[2]), 1)
		wantState(t, x, api.State{Engine: from, Target: to, Phase: api.Catching, Copied: 3})
		wantSteps(t, x, api.Cut)
		wantRoutes(t, x, rt(10, 8, 4), rt(30, 8, 5))
		wantState(t, x, api.State{Engine: to, Moves: 1})
	})
}

func TestP11ChunksOfAnySize(t *testing.T) {
	in := append(six(), rt(201, 8, 7), rt(255, 8, 8))
	betweenAny(t, func(t *testing.T, from, to int) {
		for chunk := 1; chunk <= api.MaxChunk; chunk++ {
			// A chunk ends just at the last route where n is a multiple of it; with n 0 there are no routes.
			for n := range len(in) + 1 {
				moveInChunks(t, moving(t, from, to, chunk, 1, in[:n]...), to, chunk, in[:n])
			}
		}
	})
}

func moveInChunks(t *testing.T, x *fibshift.Table, to, chunk int, in []api.Route) {
	t.Helper()
	s := x.State()
	active := x.Cells().Active
	for copied, step := 0, chunk; step == chunk; {
		step = min(chunk, len(in)-copied)
		copied += step
		wantSteps(t, x, api.Copied)
		s.Copied = copied
		if step < chunk {
			s.Phase = api.Catching
		}
		wantState(t, x, s)
		wantUse(t, x, active, need(to, in[:copied]...), 0)
		wantRoutes(t, x, in...)
	}
	wantSteps(t, x, api.Cut)
	wantState(t, x, api.State{Engine: to, Moves: 1})
	wantUse(t, x, need(to, in...), 0, 0)
	wantRoutes(t, x, in...)
}

func TestP11ATableWithoutRoutes(t *testing.T) {
	betweenAny(t, func(t *testing.T, from, to int) {
		x := moving(t, from, to, 1, 1)
		wantSteps(t, x, api.Copied)
		wantState(t, x, api.State{Engine: from, Target: to, Phase: api.Catching})
		wantUse(t, x, need(from), need(to), 0)
		// While Catching a change is logged, cursor or none.
		wantErr(t, "Add", x.Add(px(255, 8), 3), api.OK)
		wantUse(t, x, need(from, rt(255, 8, 3)), need(to), 1)
		wantSteps(t, x, api.Cut)
		wantState(t, x, api.State{Engine: to, Moves: 1})
		wantUse(t, x, need(to, rt(255, 8, 3)), 0, 0)
		wantRoutes(t, x, rt(255, 8, 3))
	})
}

func TestP11RoutesThatComeAndGoBeforeTheFirstStep(t *testing.T) {
	betweenAny(t, func(t *testing.T, from, to int) {
		x := moving(t, from, to, 8, 1, rt(64, 2, 1), rt(128, 1, 2))
		wantApply(t, x, 3, api.OK, lay(0, 0, 3), take(64, 2), lay(255, 8, 4))
		in := []api.Route{rt(0, 0, 3), rt(128, 1, 2), rt(255, 8, 4)}
		wantUse(t, x, need(from, in...), need(to), 0)
		wantSteps(t, x, api.Copied, api.Cut)
		wantRoutes(t, x, in...)
	})
}

func TestP11TheCursorsRouteIsTakenAway(t *testing.T) {
	in := six()
	betweenAny(t, func(t *testing.T, from, to int) {
		for at := range in {
			x := moving(t, from, to, 1, 1, in...)
			for range at + 1 {
				wantSteps(t, x, api.Copied)
			}
			wantErr(t, "Delete", x.Delete(prefixOf(in[at])), api.OK)
			left := slices.Delete(slices.Clone(in), at, at+1)
			wantUse(t, x, need(from, left...), need(to, in[:at+1]...), 1)
			for k := at + 1; k < len(in); k++ {
				wantSteps(t, x, api.Copied)
				wantUse(t, x, need(from, left...), need(to, in[:k+1]...), 1)
			}
			wantSteps(t, x, api.Copied)
			wantState(t, x, api.State{Engine: from, Target: to, Phase: api.Catching, Copied: len(in)})
			wantSteps(t, x, api.Cut)
			wantRoutes(t, x, left...)
			wantUse(t, x, need(to, left...), 0, 0)
		}
	})
}

func TestP11TheCursorsRouteIsTheLastAndIsTakenAway(t *testing.T) {
	betweenAny(t, func(t *testing.T, from, to int) {
		x := moving(t, from, to, 1, 2, rt(0, 0, 1))
		wantSteps(t, x, api.Copied)
		wantErr(t, "Delete", x.Delete(px(0, 0)), api.OK)
		wantErr(t, "Add", x.Add(px(0, 1), 2), api.OK)
		wantUse(t, x, need(from, rt(0, 1, 2)), need(to, rt(0, 0, 1)), 1)
		wantSteps(t, x, api.Copied, api.Copied, api.Cut)
		wantRoutes(t, x, rt(0, 1, 2))
	})
}

func TestP11ACopiedRouteAtTheBudgetsEdge(t *testing.T) { // example 10
	in := six()
	betweenAny(t, func(t *testing.T, from, to int) {
		active := need(from, in...)
		for k := range in {
			edge := active + need(to, in[:k+1]...)
			if edge == active+need(to, in[:k]...) {
				continue // it needs no cell more
			}
			for chunk := 1; chunk <= api.MaxChunk; chunk++ {
				x := moving(t, from, to, chunk, 4, in...)
				wantBudget(t, x, edge-1)
				for range k / chunk {
					wantSteps(t, x, api.Copied)
				}
				wantSteps(t, x, api.Back, api.Idle)
				wantState(t, x, api.State{Engine: from, Backs: 1})
				wantUse(t, x, active, 0, 0)
				wantRoutes(t, x, in...)

				y := moving(t, from, to, chunk, 4, in[:k+1]...)
				wantBudget(t, y, need(from, in[:k+1]...)+need(to, in[:k+1]...))
				moveInChunks(t, y, to, chunk, in[:k+1])
			}
		}
	})
}

func TestP11ACopiedRouteThatNeedsNoCellMore(t *testing.T) {
	// Far above the budget: in a Trie there is the cell of Len 0 in any case.
	for _, from := range []int{api.List, api.Ranges} {
		x := moving(t, from, api.Trie, 1, 1, rt(0, 0, 1), rt(0, 1, 2))
		wantBudget(t, x, 1)
		wantSteps(t, x, api.Copied)
		wantUse(t, x, need(from, rt(0, 0, 1), rt(0, 1, 2)), 1, 0)
		wantSteps(t, x, api.Back)
		wantState(t, x, api.State{Engine: from, Backs: 1})
	}
}

func TestP11ACaughtUpPrefixAtTheBudgetsEdge(t *testing.T) {
	in := []api.Route{rt(0, 0, 1), rt(20, 8, 4), rt(128, 1, 5), rt(200, 8, 6)}
	l := []api.Change{lay(20, 8, 9), lay(64, 2, 1), take(128, 1), lay(0, 8, 3), take(0, 0), lay(255, 8, 2), lay(254, 7, 2)}
	betweenAny(t, func(t *testing.T, from, to int) {
		backs := 0
		for _, chunk := range []int{1, 3, 8} {
			for budget := 1; budget <= 80; budget++ {
				x := catching(t, from, to, chunk, len(l), in...)
				wantApply(t, x, len(l), api.OK, l...)
				wantBudget(t, x, budget)
				if !catchUpOrBack(t, x, from, to, chunk, in, l) {
					backs++
				}
			}
		}
		// Into a List none goes over: the cell that it needs was the log's.
		if (backs > 0) != (to != api.List) {
			t.Errorf("rolled back %d times", backs)
		}
	})
}

// catchUpOrBack makes the Steps of a table that is Catching, whose log has these changes; it tells whether it was cut over.
func catchUpOrBack(t *testing.T, x *fibshift.Table, from, to, chunk int, in []api.Route, l []api.Change) bool {
	t.Helper()
	m := &model{kind: to, routes: map[api.Prefix]int{}, budget: 1000}
	for _, r := range in {
		m.routes[prefixOf(r)] = r.Next
	}
	active := x.Cells().Active
	budget := x.Cells().Budget
	for i, c := range l {
		ahead := active + m.cells() + len(l) - i
		m.apply([]api.Change{c})
		behind := active + m.cells() + len(l) - i - 1
		if behind > budget && behind > ahead {
			wantSteps(t, x, api.Back)
			wantState(t, x, api.State{Engine: from, Backs: 1})
			wantUse(t, x, active, 0, 0)
			return false
		}
		if i == len(l)-1 {
			wantSteps(t, x, api.Cut)
		} else if i%chunk == chunk-1 {
			wantSteps(t, x, api.Caught)
			wantUse(t, x, active, m.cells(), len(l)-i-1)
		}
	}
	wantState(t, x, api.State{Engine: to, Moves: 1})
	wantRoutes(t, x, m.page(px(0, 0), 511)...)
	wantUse(t, x, m.cells(), 0, 0)
	return true
}

func TestP11ACaughtUpPrefixWithNumbers(t *testing.T) {
	// The first route of Len 8 needs seven cells more in the copy, and the log's is free: 2, 2 and 2 are then 2, 9 and 1.
	for budget, want := range map[int]int{11: api.Back, 12: api.Caught} {
		x := catching(t, api.List, api.Trie, 1, 4, rt(0, 1, 1))
		wantApply(t, x, 2, api.OK, lay(0, 8, 1), lay(0, 1, 2))
		wantUse(t, x, 2, 2, 2)
		wantBudget(t, x, budget)
		wantSteps(t, x, want)
		if want == api.Caught {
			wantUse(t, x, 2, 9, 1)
			continue
		}
		wantUse(t, x, 2, 0, 0)
	}
}

func TestP11FarAboveTheBudgetAsManyCellsAreNotOver(t *testing.T) {
	// The copy's new cell was the log's; one without a cell for the log would be one more.
	x := catching(t, api.Trie, api.List, 1, 4, rt(0, 1, 1))
	wantErr(t, "Add", x.Add(px(0, 2), 2), api.OK)
	wantUse(t, x, 3, 1, 1)
	wantBudget(t, x, 1)
	wantSteps(t, x, api.Cut)
	wantRoutes(t, x, rt(0, 1, 1), rt(0, 2, 2))
}

func TestP11TheLogIsCaughtUpInItsOrder(t *testing.T) {
	betweenAny(t, func(t *testing.T, from, to int) {
		x := catching(t, from, to, 1, 4, rt(0, 0, 1))
		wantApply(t, x, 3, api.OK, lay(200, 8, 2), lay(0, 1, 3), lay(64, 4, 4))
		all := []api.Route{rt(0, 0, 1), rt(200, 8, 2), rt(0, 1, 3), rt(64, 4, 4)}
		active := need(from, all...)
		wantSteps(t, x, api.Caught)
		wantUse(t, x, active, need(to, all[:2]...), 2)
		// What was caught up joins again, at the end.
		wantErr(t, "Add", x.Add(px(200, 8), 9), api.OK)
		wantUse(t, x, active, need(to, all[:2]...), 3)
		wantSteps(t, x, api.Caught)
		wantUse(t, x, active, need(to, all[:3]...), 2)
		wantSteps(t, x, api.Caught)
		wantUse(t, x, active, need(to, all...), 1)
		wantSteps(t, x, api.Cut)
		wantRoutes(t, x, rt(0, 0, 1), rt(0, 1, 3), rt(64, 4, 4), rt(200, 8, 9))
	})
}

func TestP13Abort(t *testing.T) {
	betweenAny(t, func(t *testing.T, from, to int) {
		for steps := range 6 {
			x := table(t, from, 100, six()...)
			wantErr(t, "Abort", x.Abort(), api.ErrIdle)
			was := lookOf(t, x)
			wantErr(t, "Move", x.Move(to), api.OK)
			for range steps {
				x.Step()
			}
			if steps == 5 {
				wantState(t, x, api.State{Engine: to, Moves: 1})
				wantErr(t, "Abort behind the cutover", x.Abort(), api.ErrIdle)
				wantState(t, x, api.State{Engine: to, Moves: 1})
				continue
			}
			wantErr(t, "Abort", x.Abort(), api.OK)
			was.state.Backs = 1
			wantLook(t, x, was)
			wantErr(t, "Abort twice", x.Abort(), api.ErrIdle)
			wantLook(t, x, was)
			wantSteps(t, x, api.Idle)
		}
	})
}

func TestP13AbortWithALog(t *testing.T) {
	betweenAny(t, func(t *testing.T, from, to int) {
		for _, steps := range []int{1, 4} {
			x := moving(t, from, to, 2, 4, six()...)
			for range steps {
				wantSteps(t, x, api.Copied)
			}
			wantApply(t, x, 2, api.OK, take(0, 0), lay(0, 1, 9))
			if n := x.Cells().Logged; n != 2 {
				t.Errorf("%d prefixes are logged", n)
			}
			in := append([]api.Route{rt(0, 1, 9)}, six()[2:]...)
			wantErr(t, "Abort", x.Abort(), api.OK)
			wantRoutes(t, x, in...)
			wantUse(t, x, need(from, in...), 0, 0)
			wantState(t, x, api.State{Engine: from, Backs: 1})
		}
	})
}

func TestP14SeveralMovesOneBehindTheOther(t *testing.T) {
	x := table(t, api.List, api.MaxBudget, six()...)
	in := six()
	for i, to := range []int{2, 3, 1, 3, 2, 1} {
		from := x.State().Engine
		wantErr(t, "Move", x.Move(to), api.OK)
		wantState(t, x, api.State{Engine: from, Target: to, Phase: api.Copying, Moves: i, Backs: i})
		wantSteps(t, x, api.Copied)
		wantState(t, x, api.State{Engine: from, Target: to, Phase: api.Copying, Copied: 2, Moves: i, Backs: i})
		wantErr(t, "Abort", x.Abort(), api.OK)
		wantState(t, x, api.State{Engine: from, Moves: i, Backs: i + 1})
		wantErr(t, "Move", x.Move(to), api.OK)
		wantSteps(t, x, api.Copied)
		wantErr(t, "Add", x.Add(px(0, 0), 10+i), api.OK)
		in[0].Next = 10 + i
		wantUse(t, x, need(from, in...), need(to, in[:2]...), 1)
		wantSteps(t, x, api.Copied, api.Copied, api.Copied)
		wantState(t, x, api.State{Engine: from, Target: to, Phase: api.Catching, Copied: 6, Moves: i, Backs: i + 1})
		wantSteps(t, x, api.Cut)
		wantState(t, x, api.State{Engine: to, Moves: i + 1, Backs: i + 1})
		wantUse(t, x, need(to, in...), 0, 0)
		wantRoutes(t, x, in...)
	}
}

func TestP14BacksCountEachWayToBeRolledBack(t *testing.T) {
	betweenAny(t, func(t *testing.T, from, to int) {
		x := table(t, from, api.MaxBudget, six()...)
		wantErr(t, "Abort", x.Abort(), api.ErrIdle)
		wantErr(t, "Move", x.Move(from), api.ErrSame)
		wantState(t, x, api.State{Engine: from})

		wantErr(t, "Move", x.Move(to), api.OK)
		wantErr(t, "Abort", x.Abort(), api.OK)
		wantState(t, x, api.State{Engine: from, Backs: 1})

		wantErr(t, "Move", x.Move(to), api.OK)
		wantBudget(t, x, 1)
		wantSteps(t, x, api.Back)
		wantState(t, x, api.State{Engine: from, Backs: 2})

		wantBudget(t, x, api.MaxBudget)
		wantErr(t, "Move", x.Move(to), api.OK)
		wantSteps(t, x, api.Copied, api.Copied, api.Copied, api.Copied)
		wantApply(t, x, 5, api.OK, lay(0, 0, 9), lay(0, 1, 9), lay(16, 4, 9), lay(20, 8, 9), lay(128, 1, 9))
		wantState(t, x, api.State{Engine: from, Backs: 3})
	})
}
