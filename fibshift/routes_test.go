package fibshift_test

import (
	"slices"
	"testing"

	"fibshift/api"
	"fibshift/fibshift"
)

func TestP3NewMakesATableWithoutRoutes(t *testing.T) {
	inEach(t, func(t *testing.T, kind int) {
		for _, c := range []api.Config{{Budget: 1, Chunk: 1, Log: 1}, {Budget: 400, Chunk: 8, Log: 16}} {
			c.Engine = kind
			x, e := fibshift.New(c)
			if x == nil || e != api.OK {
				t.Fatalf("New(%+v) = %v, %d", c, x, e)
			}
			wantLook(t, x, look{
				cells:  api.Cells{Active: [...]int{0, 0, 1, 1}[kind], Budget: c.Budget},
				state:  api.State{Engine: kind},
				advice: api.List,
			})
		}
	})
}

func TestP3NewOfNoConfiguration(t *testing.T) {
	// Each field alone is wrong, at both ends of what it may be and far out.
	ends := []struct {
		last int
		with func(kind, n int) api.Config
	}{
		{3, func(_, n int) api.Config { return api.Config{Engine: n, Budget: 9, Chunk: 2, Log: 3} }},
		{400, func(kind, n int) api.Config { return api.Config{Engine: kind, Budget: n, Chunk: 2, Log: 3} }},
		{8, func(kind, n int) api.Config { return api.Config{Engine: kind, Budget: 9, Chunk: n, Log: 3} }},
		{16, func(kind, n int) api.Config { return api.Config{Engine: kind, Budget: 9, Chunk: 2, Log: n} }},
	}
	inEach(t, func(t *testing.T, kind int) {
		for _, end := range ends {
			for _, n := range append(odd(), end.last, end.last+1) {
				c := end.with(kind, n)
				x, e := fibshift.New(c)
				if good := n >= 1 && n <= end.last; good != (x != nil && e == api.OK) || !good && (x != nil || e != api.ErrConfig) {
					t.Errorf("New(%+v) = %v, %d", c, x, e)
				}
			}
		}
	})
}

func TestP4EachChangeIsLookedAtBehindThoseBeforeIt(t *testing.T) { // example 5
	inEach(t, func(t *testing.T, kind int) {
		x := table(t, kind, 12)
		wantApply(t, x, 2, api.ErrNone, lay(0, 0, 5), take(0, 0), take(0, 0))
		wantRoutes(t, x)
		wantApply(t, x, 2, api.OK, lay(0, 0, 5), take(0, 0))
		wantRoutes(t, x)
		wantApply(t, x, 3, api.OK, lay(0, 0, 5), lay(0, 0, 6), lay(255, 8, 255))
		wantRoutes(t, x, rt(0, 0, 6), rt(255, 8, 255))
		wantApply(t, x, 2, api.OK, take(0, 0), lay(0, 0, 1))
		wantRoutes(t, x, rt(0, 0, 1), rt(255, 8, 255))
	})
}

func TestP4TheFirstChangeThatCannotBeIsTold(t *testing.T) {
	inEach(t, func(t *testing.T, kind int) {
		x := table(t, kind, 30, rt(0, 0, 5), rt(128, 1, 6))
		was := lookOf(t, x)
		for _, c := range []struct {
			bad api.Change
			e   api.Errno
		}{
			{lay(1, 7, 1), api.ErrPrefix}, {lay(0, 9, 1), api.ErrPrefix}, {lay(0, -1, 1), api.ErrPrefix}, {lay(256, 8, 1), api.ErrPrefix}, {take(-2, 7), api.ErrPrefix},
			{lay(0, 0, -1), api.ErrNext}, {lay(0, 0, 256), api.ErrNext}, {take(64, 2), api.ErrNone},
		} {
			wantApply(t, x, 0, c.e, c.bad)
			wantApply(t, x, 3, c.e, lay(0, 0, 7), take(128, 1), lay(3, 8, 1), c.bad, lay(9, 9, 9))
			wantLook(t, x, was)
		}
	})
}

func TestP4ChangesOfOnePrefixAreTakenBackTheLastFirst(t *testing.T) {
	inEach(t, func(t *testing.T, kind int) {
		x := full(t, kind, rt(0, 0, 5), rt(128, 1, 6))
		was := lookOf(t, x)
		wantApply(t, x, 4, api.ErrNone, lay(0, 0, 7), lay(0, 0, 8), take(0, 0), lay(0, 0, 9), take(1, 8))
		wantLook(t, x, was)
		wantApply(t, x, 5, api.ErrRoom, take(0, 0), lay(0, 0, 9), lay(0, 1, 3), lay(0, 1, 4), lay(1, 8, 2))
		wantLook(t, x, was)
		wantRoutes(t, x, rt(0, 0, 5), rt(128, 1, 6))
	})
}

func TestP4RoomIsAskedBehindAllChanges(t *testing.T) {
	inEach(t, func(t *testing.T, kind int) {
		// Neighbours need as many cells, wherever they are; a batch may need more in between.
		x := full(t, kind, rt(0, 8, 1), rt(1, 8, 1))
		wantApply(t, x, 4, api.OK, lay(254, 8, 1), lay(255, 8, 1), take(0, 8), take(1, 8))
		wantRoutes(t, x, rt(254, 8, 1), rt(255, 8, 1))
		was := lookOf(t, x)
		wantApply(t, x, 3, api.ErrRoom, take(254, 8), lay(0, 8, 1), lay(7, 8, 1))
		wantLook(t, x, was)
	})
}

func TestP4RoomAtTheBudgetsEdge(t *testing.T) {
	before := []api.Route{rt(0, 1, 1), rt(64, 2, 2)}
	for _, c := range []struct {
		list  []api.Change
		after []api.Route
	}{
		{[]api.Change{lay(128, 1, 3)}, []api.Route{rt(0, 1, 1), rt(64, 2, 2), rt(128, 1, 3)}},
		{[]api.Change{lay(65, 8, 3)}, []api.Route{rt(0, 1, 1), rt(64, 2, 2), rt(65, 8, 3)}},
		{[]api.Change{lay(0, 2, 3), lay(0, 8, 4), take(64, 2)}, []api.Route{rt(0, 1, 1), rt(0, 2, 3), rt(0, 8, 4)}},
		{[]api.Change{take(0, 1), lay(192, 3, 3), lay(255, 8, 4)}, []api.Route{rt(64, 2, 2), rt(192, 3, 3), rt(255, 8, 4)}},
	} {
		inEach(t, func(t *testing.T, kind int) {
			edge := need(kind, c.after...)
			x := full(t, kind, before...)
			wantErr(t, "SetBudget", x.SetBudget(edge-1), api.OK)
			was := lookOf(t, x)
			wantApply(t, x, len(c.list), api.ErrRoom, c.list...)
			wantLook(t, x, was)
			wantErr(t, "SetBudget", x.SetBudget(edge), api.OK)
			wantApply(t, x, len(c.list), api.OK, c.list...)
			wantRoutes(t, x, c.after...)
			wantCells(t, x, edge, edge)
		})
	}
}

func TestP4AFullBatch(t *testing.T) {
	inEach(t, func(t *testing.T, kind int) {
		// In a Trie, one of each Len up to 4, and then twice as many for each; in Ranges, a stretch behind them too.
		cells := [...]int{0, 16, 5 + 2 + 4 + 8 + 16, 16 + 17}[kind]
		x := table(t, kind, cells)
		l := make([]api.Change, api.MaxBatch)
		for i := range l {
			l[i] = lay(i, 8, i+1)
		}
		was := lookOf(t, x)
		wantApply(t, x, 0, api.ErrMany, append(l, lay(0, 0, 1))...)
		wantLook(t, x, was)
		wantApply(t, x, 16, api.OK, l...)
		wantCells(t, x, cells, cells)
	})
}

func TestP4AboveTheBudgetOnlyMoreCellsAreRefused(t *testing.T) {
	x := table(t, api.List, 4, rt(0, 8, 1), rt(1, 8, 1), rt(2, 8, 1), rt(3, 8, 1))
	wantErr(t, "SetBudget", x.SetBudget(2), api.OK)
	wantApply(t, x, 1, api.ErrRoom, lay(4, 8, 1))
	wantApply(t, x, 2, api.OK, take(0, 8), lay(4, 8, 1))
	wantApply(t, x, 3, api.OK, take(1, 8), take(2, 8), lay(5, 8, 1))
	wantRoutes(t, x, rt(3, 8, 1), rt(4, 8, 1), rt(5, 8, 1))
	wantApply(t, x, 0, api.OK)
	wantCells(t, x, 3, 2)
}

func TestP4AboveTheBudgetInATrie(t *testing.T) {
	x := table(t, api.Trie, 9, rt(0, 8, 1))
	wantErr(t, "SetBudget", x.SetBudget(3), api.OK)
	wantCells(t, x, 9, 3)
	wantApply(t, x, 1, api.ErrRoom, lay(1, 8, 1))
	wantApply(t, x, 2, api.OK, lay(0, 4, 1), lay(0, 0, 1)) // their cells are there
	wantCells(t, x, 9, 3)
	wantApply(t, x, 3, api.OK, take(0, 8), take(0, 4), lay(255, 8, 1)) // as many
	wantCells(t, x, 9, 3)
	wantApply(t, x, 2, api.OK, take(255, 8), lay(254, 7, 1)) // fewer
	wantCells(t, x, 8, 3)
	wantApply(t, x, 1, api.ErrRoom, lay(255, 8, 1))
	wantRoutes(t, x, rt(0, 0, 1), rt(254, 7, 1))
}

func TestP4AboveTheBudgetInRanges(t *testing.T) {
	x := table(t, api.Ranges, 9, rt(0, 0, 1), rt(0, 1, 1), rt(64, 2, 1))
	wantErr(t, "SetBudget", x.SetBudget(3), api.OK)
	wantCells(t, x, 6, 3)
	wantApply(t, x, 1, api.ErrRoom, lay(128, 1, 1))        // one route more, and as many stretches
	wantApply(t, x, 2, api.OK, take(0, 0), lay(128, 1, 1)) // the other way about
	wantCells(t, x, 6, 3)
	wantApply(t, x, 2, api.OK, take(64, 2), lay(0, 2, 1))
	wantCells(t, x, 6, 3)
	wantApply(t, x, 2, api.OK, take(0, 2), lay(0, 0, 1)) // a stretch fewer
	wantCells(t, x, 5, 3)
	wantApply(t, x, 1, api.ErrRoom, lay(0, 2, 1))
	wantRoutes(t, x, rt(0, 0, 1), rt(0, 1, 1), rt(128, 1, 1))
}

func TestP5AddAndDelete(t *testing.T) { // example 4
	x := table(t, api.List, 2)
	wantErr(t, "Add", x.Add(px(1, 8), 1), api.OK)
	wantErr(t, "Add", x.Add(px(2, 8), 255), api.OK)
	wantErr(t, "Add of a third", x.Add(px(3, 8), 1), api.ErrRoom)
	wantErr(t, "Add of one that is there", x.Add(px(1, 8), 9), api.OK)
	wantRoutes(t, x, rt(1, 8, 9), rt(2, 8, 255))
	wantErr(t, "SetBudget", x.SetBudget(1), api.OK)
	wantCells(t, x, 2, 1)
	wantErr(t, "Add of one that is there", x.Add(px(1, 8), 7), api.OK)
	wantErr(t, "Delete", x.Delete(px(2, 8)), api.OK)
	wantErr(t, "Delete once more", x.Delete(px(2, 8)), api.ErrNone)
	wantErr(t, "Add of one that is gone", x.Add(px(2, 8), 1), api.ErrRoom)
	wantRoutes(t, x, rt(1, 8, 7))
}

func TestP5AddAndDeleteInTheOtherEngines(t *testing.T) { // example 4, with their cells
	for kind, cells := range map[int]struct{ two, one int }{api.Trie: {11, 9}, api.Ranges: {6, 4}} {
		x := table(t, kind, cells.two)
		wantErr(t, "Add", x.Add(px(1, 8), 1), api.OK)
		wantErr(t, "Add", x.Add(px(2, 8), 255), api.OK)
		wantErr(t, "Add of a third", x.Add(px(4, 8), 1), api.ErrRoom)
		wantErr(t, "Add of one that is there", x.Add(px(1, 8), 9), api.OK)
		wantRoutes(t, x, rt(1, 8, 9), rt(2, 8, 255))
		wantErr(t, "SetBudget", x.SetBudget(1), api.OK)
		wantCells(t, x, cells.two, 1)
		wantErr(t, "Add of one that is there", x.Add(px(1, 8), 7), api.OK)
		wantErr(t, "Delete", x.Delete(px(2, 8)), api.OK)
		wantErr(t, "Delete once more", x.Delete(px(2, 8)), api.ErrNone)
		wantErr(t, "Add of one that is gone", x.Add(px(2, 8), 1), api.ErrRoom)
		wantCells(t, x, cells.one, 1)
		wantRoutes(t, x, rt(1, 8, 7))
	}
}

func TestP5WrongPrefixesAndNexts(t *testing.T) { // example 3
	inEach(t, func(t *testing.T, kind int) {
		x := table(t, kind, 20, rt(0, 0, 1))
		was := lookOf(t, x)
		for _, p := range []api.Prefix{px(0, 9), px(0, -1), px(1, 7), px(256, 8), px(-1, 8), px(128, 0)} {
			wantErr(t, "Add", x.Add(p, 1), api.ErrPrefix)
			wantErr(t, "Delete", x.Delete(p), api.ErrPrefix)
		}
		for _, next := range []int{-1, 0, 256} {
			wantErr(t, "Add", x.Add(px(0, 0), next), api.ErrNext)
			wantErr(t, "Add", x.Add(px(1, 8), next), api.ErrNext)
		}
		wantLook(t, x, was)
		wantErr(t, "Add of Addr 1, Len 8", x.Add(px(1, 8), 1), api.OK)
		for _, p := range []api.Prefix{px(1, 7), px(0, 8), px(0, 1), px(2, 8), px(255, 8)} {
			want := api.ErrNone
			if p == px(1, 7) {
				want = api.ErrPrefix
			}
			wantErr(t, "Delete of none", x.Delete(p), want)
		}
		wantRoutes(t, x, rt(0, 0, 1), rt(1, 8, 1))
	})
}

func TestP6Get(t *testing.T) {
	inEach(t, func(t *testing.T, kind int) {
		x := table(t, kind, 9, rt(128, 1, 7), rt(128, 3, 9))
		for _, c := range []struct {
			p    api.Prefix
			next int
			e    api.Errno
		}{
			{px(128, 1), 7, api.OK}, {px(128, 3), 9, api.OK}, {px(128, 2), 0, api.ErrNone}, {px(0, 0), 0, api.ErrNone}, {px(255, 8), 0, api.ErrNone},
			{px(1, 7), 0, api.ErrPrefix}, {px(0, 9), 0, api.ErrPrefix}, {px(256, 8), 0, api.ErrPrefix},
		} {
			if next, e := x.Get(c.p); next != c.next || e != c.e {
				t.Errorf("Get(%+v) = %d, %d, want %d, %d", c.p, next, e, c.next, c.e)
			}
		}
		wantErr(t, "Add in place of another", x.Add(px(128, 3), 10), api.OK)
		if next, e := x.Get(px(128, 3)); next != 10 || e != api.OK {
			t.Errorf("Get of another Next = %d, %d", next, e)
		}
	})
}

func TestP6Lookup(t *testing.T) { // example 1
	inEach(t, func(t *testing.T, kind int) {
		x := table(t, kind, 20, rt(128, 1, 7), rt(128, 3, 9), rt(255, 8, 4))
		for _, c := range []struct {
			addr int
			want api.Route
			e    api.Errno
		}{
			{0, api.Route{}, api.ErrNone}, {5, api.Route{}, api.ErrNone}, {127, api.Route{}, api.ErrNone},
			{128, rt(128, 3, 9), api.OK}, {159, rt(128, 3, 9), api.OK}, {160, rt(128, 1, 7), api.OK}, {254, rt(128, 1, 7), api.OK}, {255, rt(255, 8, 4), api.OK},
			{-1, api.Route{}, api.ErrAddr}, {256, api.Route{}, api.ErrAddr},
		} {
			wantBest(t, x, c.addr, c.want, c.e)
		}
		wantErr(t, "Add in place of another", x.Add(px(128, 1), 8), api.OK)
		wantBest(t, x, 160, rt(128, 1, 8), api.OK)
		wantErr(t, "Delete", x.Delete(px(128, 3)), api.OK)
		wantBest(t, x, 128, rt(128, 1, 8), api.OK)
		wantErr(t, "Delete", x.Delete(px(128, 1)), api.OK)
		wantBest(t, x, 128, api.Route{}, api.ErrNone)
		wantBest(t, x, 255, rt(255, 8, 4), api.OK)
	})
}

func TestP7Page(t *testing.T) { // example 6
	a, b, c := rt(0, 0, 2), rt(128, 1, 7), rt(128, 3, 9)
	inEach(t, func(t *testing.T, kind int) {
		x := table(t, kind, 9)
		wantPage(t, x, px(0, 0), 32)
		wantApply(t, x, 2, api.OK, lay(128, 3, 9), lay(128, 1, 7))
		wantPage(t, x, px(128, 2), 10, c)
		wantPage(t, x, px(0, 0), 10, b, c)
		wantErr(t, "Add", x.Add(px(0, 0), 2), api.OK)
		wantPage(t, x, px(0, 0), 0)
		wantPage(t, x, px(0, 0), 1, a)
		wantPage(t, x, px(0, 0), 2, a, b)
		wantPage(t, x, px(0, 0), 32, a, b, c)
		wantPage(t, x, px(0, 1), 32, b, c)
		wantPage(t, x, px(128, 1), 1, b)
		wantPage(t, x, px(128, 4), 32)
		wantPage(t, x, px(255, 8), 32)
		for _, n := range []int{-1, 33} {
			_, e := x.Page(px(0, 0), n)
			wantErr(t, "Page", e, api.ErrArg)
		}
		for _, p := range []api.Prefix{px(1, 7), px(0, 9), px(256, 8)} {
			_, e := x.Page(p, 1)
			wantErr(t, "Page", e, api.ErrPrefix)
		}
	})
}

func TestP7AFullPage(t *testing.T) {
	inEach(t, func(t *testing.T, kind int) {
		x := table(t, kind, 400)
		for addr := range 40 {
			wantErr(t, "Add", x.Add(px(39-addr, 8), 1), api.OK)
		}
		page, e := x.Page(px(4, 8), 32)
		if e != api.OK || len(page) != 32 {
			t.Fatalf("Page has %d routes, %d", len(page), e)
		}
		for i, r := range page {
			if r != rt(4+i, 8, 1) {
				t.Errorf("place %d: %+v", i, r)
			}
		}
	})
}

func TestP7APageStopsAtAnyPlace(t *testing.T) {
	in := []api.Route{rt(0, 0, 1), rt(0, 1, 2), rt(0, 8, 3), rt(1, 8, 4), rt(64, 2, 5), rt(127, 8, 6), rt(128, 1, 7), rt(128, 2, 8), rt(192, 2, 9), rt(254, 7, 1), rt(255, 8, 2)}
	inEach(t, func(t *testing.T, kind int) {
		x := table(t, kind, 400, in...)
		for at, r := range in {
			for n := range len(in) + 2 {
				wantPage(t, x, prefixOf(r), n, in[at:min(at+n, len(in))]...)
			}
		}
		wantRoutes(t, x, in...)
	})
}

func TestP8SetBudget(t *testing.T) {
	inEach(t, func(t *testing.T, kind int) {
		x := table(t, kind, 15, rt(0, 0, 1), rt(1, 8, 1))
		active := [...]int{0, 2, 9, 5}[kind]
		for _, n := range []int{1, 400, 2} {
			wantErr(t, "SetBudget", x.SetBudget(n), api.OK)
			wantCells(t, x, active, n)
		}
		for _, n := range []int{0, -1, 401} {
			wantErr(t, "SetBudget", x.SetBudget(n), api.ErrArg)
			wantCells(t, x, active, 2)
		}
		wantRoutes(t, x, rt(0, 0, 1), rt(1, 8, 1))
	})
}

func TestP8AsManyRoutesAsTheGreatestBudgetLets(t *testing.T) {
	inEach(t, func(t *testing.T, kind int) {
		x := table(t, kind, api.MaxBudget)
		var made []api.Route
		for length := range api.Bits + 1 {
			for addr := 0; addr < 256; addr += 256 >> length {
				want := api.OK
				if would := append(slices.Clone(made), rt(addr, length, 1)); need(kind, would...) > api.MaxBudget {
					want = api.ErrRoom
				} else {
					made = would
				}
				wantErr(t, "Add", x.Add(px(addr, length), 1), want)
			}
		}
		wantCells(t, x, api.MaxBudget, api.MaxBudget)
		if n := len(routesOf(t, x)); n != len(made) {
			t.Errorf("%d routes, want %d", n, len(made))
		}
	})
}

func TestP8CellsInEachEngine(t *testing.T) { // examples 1 and 2
	inEach(t, func(t *testing.T, kind int) {
		x := table(t, kind, 10)
		for _, c := range []struct {
			change api.Change
			active [3]int
		}{
			{lay(128, 1, 7), [3]int{1, 2, 3}},
			{lay(128, 3, 9), [3]int{2, 4, 5}},
			{lay(128, 1, 9), [3]int{2, 4, 5}}, // a Next is of no matter
			{lay(0, 0, 9), [3]int{3, 4, 6}},
			{lay(0, 1, 1), [3]int{4, 5, 7}}, // the route of Len 0 is that of no address
			{take(128, 1), [3]int{3, 5, 6}},
			{take(0, 0), [3]int{2, 5, 5}},
			{take(128, 3), [3]int{1, 2, 3}}, // its cells between go too
			{take(0, 1), [3]int{0, 1, 1}},
		} {
			wantApply(t, x, 1, api.OK, c.change)
			wantCells(t, x, c.active[kind-1], 10)
			// One that is taken back leaves them so.
			wantApply(t, x, 2, api.ErrNone, lay(3, 8, 1), lay(128, 3, 1), take(255, 8))
			wantCells(t, x, c.active[kind-1], 10)
		}
	})
}

func TestP9Advise(t *testing.T) {
	inEach(t, func(t *testing.T, kind int) {
		for _, c := range []struct{ long, short, want int }{
			{0, 0, api.List}, {8, 0, api.List}, {0, 8, api.List}, {4, 4, api.List},
			{9, 0, api.Trie}, {5, 4, api.Trie}, {6, 4, api.Trie},
			{0, 9, api.Ranges}, {4, 5, api.Ranges}, {5, 5, api.Ranges}, {8, 8, api.Ranges}, {9, 8, api.Trie},
		} {
			// The longest of the short ones, and the shortest of the long ones.
			x := table(t, kind, 400)
			for i := range c.long {
				wantErr(t, "Add", x.Add(px(8*i, 5), 1), api.OK)
			}
			for i := range c.short {
				wantErr(t, "Add", x.Add(px(16*i, 4), 1), api.OK)
			}
			if n := x.Advise(); n != c.want {
				t.Errorf("%d long routes, %d short ones: %d, want %d", c.long, c.short, n, c.want)
			}
		}
	})
}
