package engine_test

import (
	"slices"
	"testing"

	"fibshift/api"
	"fibshift/engine"
	"fibshift/prefix"
)

func px(addr, length int) api.Prefix { return api.Prefix{Addr: addr, Len: length} }

func routes(e engine.Engine, from api.Prefix) []api.Route { return slices.Collect(e.From(from)) }

func TestListIsAnEngine(t *testing.T) {
	var e engine.Engine = engine.NewList()
	if _, found := e.Best(0); found || e.Cells() != 0 || len(routes(e, prefix.First())) != 0 {
		t.Error("a new List has routes")
	}
	r := api.Route{Addr: 128, Len: 3, Next: 9}
	if old := e.Lay(r); old != 0 {
		t.Errorf("Lay of a new route = %d", old)
	}
	r.Next = 4
	if old := e.Lay(r); old != 9 || e.Cells() != 1 {
		t.Errorf("Lay in place of another = %d, %d cells", old, e.Cells())
	}
	if old := e.Take(px(128, 2)); old != 0 || e.Cells() != 1 {
		t.Errorf("Take of none = %d, %d cells", old, e.Cells())
	}
	if old := e.Take(px(128, 3)); old != 4 || e.Cells() != 0 {
		t.Errorf("Take = %d, %d cells", old, e.Cells())
	}
}

func TestSetAndNext(t *testing.T) {
	e := engine.NewList()
	e.Lay(api.Route{Addr: 128, Len: 4, Next: 1})
	for _, c := range []struct{ next, old int }{{0, 0}, {7, 0}, {8, 7}, {0, 8}, {0, 0}} {
		if old := engine.Set(e, px(128, 3), c.next); old != c.old {
			t.Errorf("Set to %d = %d, want %d", c.next, old, c.old)
		}
		if next := engine.Next(e, px(128, 3)); next != c.next {
			t.Errorf("Next = %d, want %d", next, c.next)
		}
	}
	if next := engine.Next(e, px(192, 2)); next != 0 {
		t.Errorf("Next behind all routes = %d", next)
	}
}

func TestListFindsTheLongestOfNested(t *testing.T) {
	e := engine.NewList()
	for length := range api.Bits + 1 {
		p := prefix.Covering(0xA5, length)
		e.Lay(api.Route{Addr: p.Addr, Len: length, Next: length + 1})
	}
	for addr := range 256 {
		want := 0
		for length := range api.Bits + 1 {
			if prefix.Covering(addr, length) == prefix.Covering(0xA5, length) {
				want = length
			}
		}
		if r, found := e.Best(addr); !found || r.Len != want || r.Next != want+1 || prefix.Of(r) != prefix.Covering(addr, want) {
			t.Fatalf("Best(%d) = %+v, %v, want Len %d", addr, r, found, want)
		}
	}
}

func TestListGoesThroughItsRoutesFromAnyPrefixOn(t *testing.T) {
	e := engine.NewList()
	in := []api.Route{{Next: 1}, {Len: 8, Next: 2}, {Addr: 64, Len: 2, Next: 3}, {Addr: 128, Len: 1, Next: 4}, {Addr: 128, Len: 3, Next: 5}, {Addr: 255, Len: 8, Next: 6}}
	for _, r := range slices.Backward(in) {
		e.Lay(r)
	}
	for addr := range 256 {
		for length := range api.Bits + 1 {
			from := prefix.Covering(addr, length)
			var want []api.Route
			for _, r := range in {
				if r.Addr > from.Addr || r.Addr == from.Addr && r.Len >= from.Len {
					want = append(want, r)
				}
			}
			if got := routes(e, from); !slices.Equal(got, want) {
				t.Fatalf("From(%+v) = %+v, want %+v", from, got, want)
			}
		}
	}
}

func TestListIteratorMayBeStopped(t *testing.T) {
	e := engine.NewList()
	for addr := range 5 {
		e.Lay(api.Route{Addr: addr, Len: 8, Next: 1})
	}
	calls := 0
	e.From(prefix.First())(func(api.Route) bool { calls++; return calls < 3 })
	if calls != 3 {
		t.Errorf("yield was called %d times", calls)
	}
}
