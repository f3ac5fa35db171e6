package fibshift_test

import (
	"math"
	"slices"
	"testing"

	"fibshift/api"
	"fibshift/fibshift"
)

// odd are numbers that most arguments may not be.
func odd() []int {
	return []int{math.MinInt, math.MinInt + 1, math.MinInt32, -256, -1, 0, 1, 2, 9, 17, 33, 255, 256, 401, math.MaxInt32, math.MaxInt - 1, math.MaxInt}
}

func px(addr, length int) api.Prefix { return api.Prefix{Addr: addr, Len: length} }

func lay(addr, length, next int) api.Change {
	return api.Change{Addr: addr, Len: length, Next: next}
}

func take(addr, length int) api.Change { return api.Change{Addr: addr, Len: length} }

func rt(addr, length, next int) api.Route { return api.Route{Addr: addr, Len: length, Next: next} }

// table makes a List with a budget, and with these routes.
func table(t *testing.T, budget int, routes ...api.Route) *fibshift.Table {
	t.Helper()
	x, e := fibshift.New(api.Config{Engine: api.List, Budget: budget, Chunk: 2, Log: 4})
	if x == nil || e != api.OK {
		t.Fatalf("New = %v, %d", x, e)
	}
	for _, r := range routes {
		wantErr(t, "Add", x.Add(px(r.Addr, r.Len), r.Next), api.OK)
	}
	return x
}

// routesOf pages through all routes of a table.
func routesOf(t *testing.T, x *fibshift.Table) []api.Route {
	t.Helper()
	var all []api.Route
	from := px(0, 0)
	for {
		page, e := x.Page(from, api.MaxPage)
		if e != api.OK {
			t.Fatalf("Page(%+v) = %d", from, e)
		}
		// A page begins with the last route of the one ahead of it.
		if len(all) > 0 {
			page = page[1:]
		}
		if len(page) == 0 {
			return all
		}
		all = append(all, page...)
		last := all[len(all)-1]
		from = px(last.Addr, last.Len)
	}
}

func wantErr(t *testing.T, what string, got, want api.Errno) {
	t.Helper()
	if got != want {
		t.Errorf("%s = %d, want %d", what, got, want)
	}
}

func wantRoutes(t *testing.T, x *fibshift.Table, want ...api.Route) {
	t.Helper()
	if got := routesOf(t, x); !slices.Equal(got, want) {
		t.Errorf("routes %+v, want %+v", got, want)
	}
}

func wantApply(t *testing.T, x *fibshift.Table, n int, e api.Errno, l ...api.Change) {
	t.Helper()
	if gotN, gotE := x.Apply(l); gotN != n || gotE != e {
		t.Errorf("Apply(%+v) = %d, %d, want %d, %d", l, gotN, gotE, n, e)
	}
}

func wantCells(t *testing.T, x *fibshift.Table, active, budget int) {
	t.Helper()
	if got, want := x.Cells(), (api.Cells{Active: active, Budget: budget}); got != want {
		t.Errorf("Cells = %+v, want %+v", got, want)
	}
}

func wantPage(t *testing.T, x *fibshift.Table, from api.Prefix, n int, want ...api.Route) {
	t.Helper()
	if got, e := x.Page(from, n); e != api.OK || !slices.Equal(got, want) {
		t.Errorf("Page(%+v, %d) = %+v, %d, want %+v", from, n, got, e, want)
	}
}
