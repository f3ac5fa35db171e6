package fibshift_test

import (
	"math"
	"reflect"
	"slices"
	"testing"

	"fibshift/api"
	"fibshift/fibshift"
)

// odd are numbers that most arguments may not be.
func odd() []int {
	return []int{math.MinInt, math.MinInt + 1, math.MinInt32, -256, -1, 0, 1, 2, 9, 17, 33, 255, 256, 401, math.MaxInt32, math.MaxInt - 1, math.MaxInt}
}

func px(addr, length int) api.Prefix { return api.Prefix{Addr: addr, Len: length} }

func lay(addr, length, next int) api.Change {
	return api.Change{Addr: addr, Len: length, Next: next}
}

func take(addr, length int) api.Change { return api.Change{Addr: addr, Len: length} }

func rt(addr, length, next int) api.Route { return api.Route{Addr: addr, Len: length, Next: next} }

func prefixOf(r api.Route) api.Prefix { return px(r.Addr, r.Len) }

// inEach tests with each of the engines.
func inEach(t *testing.T, test func(t *testing.T, kind int)) {
	for _, kind := range []int{api.List, api.Trie, api.Ranges} {
		t.Run([]string{"", "List", "Trie", "Ranges"}[kind], func(t *testing.T) { test(t, kind) })
	}
}

// betweenAny tests with a move from each of the engines to each other one.
func betweenAny(t *testing.T, test func(t *testing.T, from, to int)) {
	inEach(t, func(t *testing.T, from int) {
		inEach(t, func(t *testing.T, to int) {
			if to != from {
				test(t, from, to)
			}
		})
	})
}

// table makes a table with an engine, a budget, and these routes.
func table(t *testing.T, kind, budget int, routes ...api.Route) *fibshift.Table {
	t.Helper()
	return tableOf(t, api.Config{Engine: kind, Budget: budget, Chunk: 2, Log: 4}, routes...)
}

func tableOf(t *testing.T, c api.Config, routes ...api.Route) *fibshift.Table {
	t.Helper()
	x, e := fibshift.New(c)
	if x == nil || e != api.OK {
		t.Fatalf("New = %v, %d", x, e)
	}
	for _, r := range routes {
		wantErr(t, "Add", x.Add(prefixOf(r), r.Next), api.OK)
	}
	return x
}

// moving makes a table that has just begun to move, with the greatest budget.
func moving(t *testing.T, from, to, chunk, log int, routes ...api.Route) *fibshift.Table {
	t.Helper()
	x := tableOf(t, api.Config{Engine: from, Budget: api.MaxBudget, Chunk: chunk, Log: log}, routes...)
	wantErr(t, "Move", x.Move(to), api.OK)
	return x
}

// catching makes a table that has copied all its routes, and is Catching.
func catching(t *testing.T, from, to, chunk, log int, routes ...api.Route) *fibshift.Table {
	t.Helper()
	x := moving(t, from, to, chunk, log, routes...)
	for range len(routes)/chunk + 1 {
		wantSteps(t, x, api.Copied)
	}
	wantState(t, x, api.State{Engine: from, Target: to, Phase: api.Catching, Copied: len(routes)})
	return x
}

// full makes a table whose routes need all cells of its budget.
func full(t *testing.T, kind int, routes ...api.Route) *fibshift.Table {
	t.Helper()
	x := table(t, kind, api.MaxBudget, routes...)
	wantErr(t, "SetBudget", x.SetBudget(need(kind, routes...)), api.OK)
	return x
}

// look is all that a table tells of itself.
type look struct {
	routes []api.Route
	best   [256]api.Route
	cells  api.Cells
	state  api.State
	advice int
}

func lookOf(t *testing.T, x *fibshift.Table) look {
	t.Helper()
	l := look{routes: routesOf(t, x), cells: x.Cells(), state: x.State(), advice: x.Advise()}
	for addr := range l.best {
		l.best[addr], _ = x.Lookup(addr)
	}
	return l
}

func wantLook(t *testing.T, x *fibshift.Table, want look) {
	t.Helper()
	if got := lookOf(t, x); !reflect.DeepEqual(got, want) {
		t.Errorf("the table is %+v, want %+v", got, want)
	}
}

// routesOf pages through all routes of a table.
func routesOf(t *testing.T, x *fibshift.Table) []api.Route {
	t.Helper()
	var all []api.Route
	from := px(0, 0)
	// There are fewer pages than prefixes; one that goes round and round is wrong.
	for range 511 {
		page, e := x.Page(from, api.MaxPage)
		if e != api.OK {
			t.Fatalf("Page(%+v) = %d", from, e)
		}
		// A page begins with the last route of the one ahead of it.
		if len(all) > 0 {
			if len(page) == 0 || page[0] != all[len(all)-1] {
				t.Fatalf("Page(%+v) = %+v, without the route of that prefix", from, page)
			}
			page = page[1:]
		}
		if len(page) == 0 {
			return all
		}
		all = append(all, page...)
		from = prefixOf(all[len(all)-1])
	}
	t.Fatalf("the pages do not end")
	return nil
}

func wantErr(t *testing.T, what string, got, want api.Errno) {
	t.Helper()
	if got != want {
		t.Errorf("%s = %d, want %d", what, got, want)
	}
}

func wantRoutes(t *testing.T, x *fibshift.Table, want ...api.Route) {
	t.Helper()
	if got := routesOf(t, x); !slices.Equal(got, want) {
		t.Errorf("routes %+v, want %+v", got, want)
	}
}

func wantApply(t *testing.T, x *fibshift.Table, n int, e api.Errno, l ...api.Change) {
	t.Helper()
	if gotN, gotE := x.Apply(l); gotN != n || gotE != e {
		t.Errorf("Apply(%+v) = %d, %d, want %d, %d", l, gotN, gotE, n, e)
	}
}

func wantCells(t *testing.T, x *fibshift.Table, active, budget int) {
	t.Helper()
	if got, want := x.Cells(), (api.Cells{Active: active, Budget: budget}); got != want {
		t.Errorf("Cells = %+v, want %+v", got, want)
	}
}

func wantPage(t *testing.T, x *fibshift.Table, from api.Prefix, n int, want ...api.Route) {
	t.Helper()
	if got, e := x.Page(from, n); e != api.OK || !slices.Equal(got, want) {
		t.Errorf("Page(%+v, %d) = %+v, %d, want %+v", from, n, got, e, want)
	}
}

func wantBest(t *testing.T, x *fibshift.Table, addr int, want api.Route, e api.Errno) {
	t.Helper()
	if gotR, gotE := x.Lookup(addr); gotR != want || gotE != e {
		t.Errorf("Lookup(%d) = %+v, %d, want %+v, %d", addr, gotR, gotE, want, e)
	}
}

// wantUse asks for the cells in use, whatever the budget is.
func wantUse(t *testing.T, x *fibshift.Table, active, target, logged int) {
	t.Helper()
	got := x.Cells()
	if want := (api.Cells{Active: active, Target: target, Logged: logged, Budget: got.Budget}); got != want {
		t.Errorf("Cells = %+v, want %+v", got, want)
	}
}

func wantState(t *testing.T, x *fibshift.Table, want api.State) {
	t.Helper()
	if got := x.State(); got != want {
		t.Errorf("State = %+v, want %+v", got, want)
	}
}

// wantSteps makes as many Steps as it has answers.
func wantSteps(t *testing.T, x *fibshift.Table, want ...int) {
	t.Helper()
	for i, n := range want {
		if got := x.Step(); got != n {
			t.Errorf("Step %d of %d = %d, want %d", i+1, len(want), got, n)
		}
	}
}

func wantBudget(t *testing.T, x *fibshift.Table, n int) {
	t.Helper()
	wantErr(t, "SetBudget", x.SetBudget(n), api.OK)
}
