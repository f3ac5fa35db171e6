package fibshift_test

import (
	"testing"

	"fibshift/api"
	"fibshift/fibshift"
)

func TestP3NewMakesATableWithoutRoutes(t *testing.T) {
	for _, c := range []api.Config{{Engine: 1, Budget: 1, Chunk: 1, Log: 1}, {Engine: 1, Budget: 400, Chunk: 8, Log: 16}} {
		x, e := fibshift.New(c)
		if x == nil || e != api.OK {
			t.Fatalf("New(%+v) = %v, %d", c, x, e)
		}
		wantRoutes(t, x)
		wantCells(t, x, 0, c.Budget)
	}
	for kind := api.List; kind <= api.Ranges; kind++ {
		if x, e := fibshift.New(api.Config{Engine: kind, Budget: 9, Chunk: 2, Log: 3}); x == nil || e != api.OK {
			t.Errorf("New of engine %d = %v, %d", kind, x, e)
		}
	}
}

func TestP3NewOfNoConfiguration(t *testing.T) {
	// Each field alone is wrong, at both ends of what it may be and far out.
	ends := []struct {
		last int
		with func(n int) api.Config
	}{
		{3, func(n int) api.Config { return api.Config{Engine: n, Budget: 9, Chunk: 2, Log: 3} }},
		{400, func(n int) api.Config { return api.Config{Engine: 1, Budget: n, Chunk: 2, Log: 3} }},
		{8, func(n int) api.Config { return api.Config{Engine: 1, Budget: 9, Chunk: n, Log: 3} }},
		{16, func(n int) api.Config { return api.Config{Engine: 1, Budget: 9, Chunk: 2, Log: n} }},
	}
	for _, end := range ends {
		for _, n := range append(odd(), end.last, end.last+1) {
			x, e := fibshift.New(end.with(n))
			if good := n >= 1 && n <= end.last; good != (x != nil && e == api.OK) || !good && (x != nil || e != api.ErrConfig) {
				t.Errorf("New(%+v) = %v, %d", end.with(n), x, e)
			}
		}
	}
}

func TestP4EachChangeIsLookedAtBehindThoseBeforeIt(t *testing.T) { // example 5
	x := table(t, 3)
	wantApply(t, x, 2, api.ErrNone, lay(0, 0, 5), take(0, 0), take(0, 0))
	wantRoutes(t, x)
	wantApply(t, x, 2, api.OK, lay(0, 0, 5), take(0, 0))
	wantRoutes(t, x)
	wantApply(t, x, 3, api.OK, lay(0, 0, 5), lay(0, 0, 6), lay(255, 8, 255))
	wantRoutes(t, x, rt(0, 0, 6), rt(255, 8, 255))
	wantApply(t, x, 2, api.OK, take(0, 0), lay(0, 0, 1))
	wantRoutes(t, x, rt(0, 0, 1), rt(255, 8, 255))
}

func TestP4TheFirstChangeThatCannotBeIsTold(t *testing.T) {
	x := table(t, 9, rt(0, 0, 5), rt(128, 1, 6))
	for _, c := range []struct {
		bad api.Change
		e   api.Errno
	}{
		{lay(1, 7, 1), api.ErrPrefix}, {lay(0, 9, 1), api.ErrPrefix}, {lay(0, -1, 1), api.ErrPrefix}, {lay(256, 8, 1), api.ErrPrefix}, {take(-2, 7), api.ErrPrefix},
		{lay(0, 0, -1), api.ErrNext}, {lay(0, 0, 256), api.ErrNext}, {take(64, 2), api.ErrNone},
	} {
		wantApply(t, x, 0, c.e, c.bad)
		wantApply(t, x, 3, c.e, lay(0, 0, 7), take(128, 1), lay(3, 8, 1), c.bad, lay(9, 9, 9))
		wantRoutes(t, x, rt(0, 0, 5), rt(128, 1, 6))
	}
}

func TestP4ChangesOfOnePrefixAreTakenBackTheLastFirst(t *testing.T) {
	x := table(t, 2, rt(0, 0, 5), rt(128, 1, 6))
	wantApply(t, x, 4, api.ErrNone, lay(0, 0, 7), lay(0, 0, 8), take(0, 0), lay(0, 0, 9), take(1, 8))
	wantRoutes(t, x, rt(0, 0, 5), rt(128, 1, 6))
	wantApply(t, x, 5, api.ErrRoom, take(0, 0), lay(0, 0, 9), lay(0, 1, 3), lay(0, 1, 4), lay(1, 8, 2))
	wantRoutes(t, x, rt(0, 0, 5), rt(128, 1, 6))
	wantCells(t, x, 2, 2)
}

func TestP4RoomIsAskedBehindAllChanges(t *testing.T) {
	x := table(t, 3, rt(0, 0, 1), rt(1, 8, 1))
	wantApply(t, x, 5, api.OK, lay(2, 8, 1), lay(3, 8, 1), lay(4, 8, 1), take(0, 0), take(1, 8))
	wantRoutes(t, x, rt(2, 8, 1), rt(3, 8, 1), rt(4, 8, 1))
	wantApply(t, x, 3, api.ErrRoom, take(2, 8), lay(5, 8, 1), lay(6, 8, 1))
	wantRoutes(t, x, rt(2, 8, 1), rt(3, 8, 1), rt(4, 8, 1))
}

func TestP4AFullBatch(t *testing.T) {
	x := table(t, 16)
	l := make([]api.Change, api.MaxBatch)
	for i := range l {
		l[i] = lay(i, 8, i+1)
	}
	wantApply(t, x, 0, api.ErrMany, append(l, lay(0, 0, 1))...)
	wantCells(t, x, 0, 16)
	wantApply(t, x, 16, api.OK, l...)
	wantCells(t, x, 16, 16)
}

func TestP4AboveTheBudgetOnlyMoreCellsAreRefused(t *testing.T) {
	x := table(t, 4, rt(0, 8, 1), rt(1, 8, 1), rt(2, 8, 1), rt(3, 8, 1))
	wantErr(t, "SetBudget", x.SetBudget(2), api.OK)
	wantApply(t, x, 1, api.ErrRoom, lay(4, 8, 1))
	wantApply(t, x, 2, api.OK, take(0, 8), lay(4, 8, 1))
	wantApply(t, x, 3, api.OK, take(1, 8), take(2, 8), lay(5, 8, 1))
	wantRoutes(t, x, rt(3, 8, 1), rt(4, 8, 1), rt(5, 8, 1))
	wantApply(t, x, 0, api.OK)
	wantCells(t, x, 3, 2)
}

func TestP5AddAndDelete(t *testing.T) { // example 4
	x := table(t, 2)
	wantErr(t, "Add", x.Add(px(1, 8), 1), api.OK)
	wantErr(t, "Add", x.Add(px(2, 8), 255), api.OK)
	wantErr(t, "Add of a third", x.Add(px(3, 8), 1), api.ErrRoom)
	wantErr(t, "Add of one that is there", x.Add(px(1, 8), 9), api.OK)
	wantRoutes(t, x, rt(1, 8, 9), rt(2, 8, 255))
	wantErr(t, "SetBudget", x.SetBudget(1), api.OK)
	wantCells(t, x, 2, 1)
	wantErr(t, "Add of one that is there", x.Add(px(1, 8), 7), api.OK)
	wantErr(t, "Delete", x.Delete(px(2, 8)), api.OK)
	wantErr(t, "Delete once more", x.Delete(px(2, 8)), api.ErrNone)
	wantErr(t, "Add of one that is gone", x.Add(px(2, 8), 1), api.ErrRoom)
	wantRoutes(t, x, rt(1, 8, 7))
}

func TestP5WrongPrefixesAndNexts(t *testing.T) { // example 3
	x := table(t, 9, rt(0, 0, 1))
	for _, p := range []api.Prefix{px(0, 9), px(0, -1), px(1, 7), px(256, 8), px(-1, 8), px(128, 0)} {
		wantErr(t, "Add", x.Add(p, 1), api.ErrPrefix)
		wantErr(t, "Delete", x.Delete(p), api.ErrPrefix)
	}
	for _, next := range []int{-1, 0, 256} {
		wantErr(t, "Add", x.Add(px(0, 0), next), api.ErrNext)
	}
	wantRoutes(t, x, rt(0, 0, 1))
	wantErr(t, "Add of Addr 1, Len 8", x.Add(px(1, 8), 1), api.OK)
}

func TestP6Get(t *testing.T) {
	x := table(t, 9, rt(128, 1, 7), rt(128, 3, 9))
	for _, c := range []struct {
		p    api.Prefix
		next int
		e    api.Errno
	}{
		{px(128, 1), 7, api.OK}, {px(128, 3), 9, api.OK}, {px(128, 2), 0, api.ErrNone}, {px(0, 0), 0, api.ErrNone}, {px(255, 8), 0, api.ErrNone},
		{px(1, 7), 0, api.ErrPrefix}, {px(0, 9), 0, api.ErrPrefix}, {px(256, 8), 0, api.ErrPrefix},
	} {
		if next, e := x.Get(c.p); next != c.next || e != c.e {
			t.Errorf("Get(%+v) = %d, %d, want %d, %d", c.p, next, e, c.next, c.e)
		}
	}
}

func TestP6Lookup(t *testing.T) { // example 1, in a List
	x := table(t, 9, rt(128, 1, 7), rt(128, 3, 9), rt(255, 8, 4))
	for _, c := range []struct {
		addr int
		want api.Route
		e    api.Errno
	}{
		{0, api.Route{}, api.ErrNone}, {5, api.Route{}, api.ErrNone}, {127, api.Route{}, api.ErrNone},
		{128, rt(128, 3, 9), api.OK}, {159, rt(128, 3, 9), api.OK}, {160, rt(128, 1, 7), api.OK}, {254, rt(128, 1, 7), api.OK}, {255, rt(255, 8, 4), api.OK},
		{-1, api.Route{}, api.ErrAddr}, {256, api.Route{}, api.ErrAddr},
	} {
		if r, e := x.Lookup(c.addr); r != c.want || e != c.e {
			t.Errorf("Lookup(%d) = %+v, %d, want %+v, %d", c.addr, r, e, c.want, c.e)
		}
	}
}

func TestP7Page(t *testing.T) { // example 6
	a, b, c := rt(0, 0, 2), rt(128, 1, 7), rt(128, 3, 9)
	x := table(t, 9, c, b)
	wantPage(t, x, px(128, 2), 10, c)
	wantPage(t, x, px(0, 0), 10, b, c)
	wantErr(t, "Add", x.Add(px(0, 0), 2), api.OK)
	wantPage(t, x, px(0, 0), 0)
	wantPage(t, x, px(0, 0), 1, a)
	wantPage(t, x, px(0, 0), 2, a, b)
	wantPage(t, x, px(0, 0), 32, a, b, c)
	wantPage(t, x, px(0, 1), 32, b, c)
	wantPage(t, x, px(128, 1), 1, b)
	wantPage(t, x, px(128, 4), 32)
	wantPage(t, x, px(255, 8), 32)
	for _, n := range []int{-1, 33} {
		_, e := x.Page(px(0, 0), n)
		wantErr(t, "Page", e, api.ErrArg)
	}
	for _, p := range []api.Prefix{px(1, 7), px(0, 9), px(256, 8)} {
		_, e := x.Page(p, 1)
		wantErr(t, "Page", e, api.ErrPrefix)
	}
}

func TestP7AFullPage(t *testing.T) {
	x := table(t, 400)
	for addr := range 40 {
		wantErr(t, "Add", x.Add(px(39-addr, 8), 1), api.OK)
	}
	page, e := x.Page(px(4, 8), 32)
	if e != api.OK || len(page) != 32 {
		t.Fatalf("Page has %d routes, %d", len(page), e)
	}
	for i, r := range page {
		if r != rt(4+i, 8, 1) {
			t.Errorf("place %d: %+v", i, r)
		}
	}
}

func TestP8SetBudget(t *testing.T) {
	x := table(t, 5, rt(0, 0, 1), rt(1, 8, 1))
	for _, n := range []int{1, 400, 2} {
		wantErr(t, "SetBudget", x.SetBudget(n), api.OK)
		wantCells(t, x, 2, n)
	}
	for _, n := range []int{0, -1, 401} {
		wantErr(t, "SetBudget", x.SetBudget(n), api.ErrArg)
		wantCells(t, x, 2, 2)
	}
	wantRoutes(t, x, rt(0, 0, 1), rt(1, 8, 1))
}

func TestP8AsManyRoutesAsTheGreatestBudget(t *testing.T) {
	x := table(t, api.MaxBudget)
	made := 0
	for length := range api.Bits + 1 {
		for addr := 0; addr < 256; addr += 256 >> length {
			want := api.OK
			if made == api.MaxBudget {
				want = api.ErrRoom
			} else {
				made++
			}
			wantErr(t, "Add", x.Add(px(addr, length), 1), want)
		}
	}
	wantCells(t, x, api.MaxBudget, api.MaxBudget)
	if n := len(routesOf(t, x)); n != api.MaxBudget {
		t.Errorf("%d routes", n)
	}
}

func TestP8CellsOfTheExamplesRoutes(t *testing.T) { // example 2, in a List
	x := table(t, 9, rt(128, 1, 7), rt(128, 3, 9))
	wantCells(t, x, 2, 9)
	wantErr(t, "Delete", x.Delete(px(128, 1)), api.OK)
	wantCells(t, x, 1, 9)
}

func TestP9Advise(t *testing.T) {
	for _, c := range []struct{ long, short, want int }{
		{0, 0, api.List}, {8, 0, api.List}, {0, 8, api.List}, {4, 4, api.List},
		{9, 0, api.Trie}, {5, 4, api.Trie}, {6, 4, api.Trie},
		{0, 9, api.Ranges}, {4, 5, api.Ranges}, {5, 5, api.Ranges}, {8, 8, api.Ranges}, {9, 8, api.Trie},
	} {
		// The longest of the short ones, and the shortest of the long ones.
		x := table(t, 400)
		for i := range c.long {
			wantErr(t, "Add", x.Add(px(8*i, 5), 1), api.OK)
		}
		for i := range c.short {
			wantErr(t, "Add", x.Add(px(16*i, 4), 1), api.OK)
		}
		if n := x.Advise(); n != c.want {
			t.Errorf("%d long routes, %d short ones: %d, want %d", c.long, c.short, n, c.want)
		}
	}
}
