package engine_test

import (
	"slices"
	"testing"

	"fibshift/api"
	"fibshift/engine"
	"fibshift/prefix"
)

func px(addr, length int) api.Prefix { return api.Prefix{Addr: addr, Len: length} }

func rt(addr, length, next int) api.Route { return api.Route{Addr: addr, Len: length, Next: next} }

func routes(e engine.Engine, from api.Prefix) []api.Route { return slices.Collect(e.From(from)) }

// inEach tests with an engine of each kind; fresh makes another one.
func inEach(t *testing.T, test func(t *testing.T, fresh func() engine.Engine)) {
	for name, fresh := range map[string]func() engine.Engine{
		"List":   func() engine.Engine { return engine.NewList() },
		"Trie":   func() engine.Engine { return engine.NewTrie() },
		"Ranges": func() engine.Engine { return engine.NewRanges() },
	} {
		t.Run(name, func(t *testing.T) { test(t, fresh) })
	}
}

func all() []api.Prefix {
	var l []api.Prefix
	for length := range api.Bits + 1 {
		for addr := 0; addr < 256; addr += 256 >> length {
			l = append(l, px(addr, length))
		}
	}
	return l
}

// filled lays a route for each prefix that is marked, out of their order, and tells them in it.
func filled(e engine.Engine, marked func(p api.Prefix) bool) []api.Route {
	var l []api.Route
	for i, p := range all() {
		if marked(p) {
			l = append(l, rt(p.Addr, p.Len, i%255+1))
		}
	}
	for _, r := range slices.Backward(l) {
		e.Lay(r)
	}
	slices.SortFunc(l, func(a, b api.Route) int { return 16*(a.Addr-b.Addr) + a.Len - b.Len })
	return l
}

func TestNewAndKind(t *testing.T) {
	for kind := api.List; kind <= api.Ranges; kind++ {
		if got := engine.Kind(engine.New(kind)); got != kind {
			t.Errorf("the kind of an engine %d is %d", kind, got)
		}
	}
	for _, kind := range []int{-1, 0, 4} {
		if e := engine.New(kind); e != nil {
			t.Errorf("New(%d) = %v", kind, e)
		}
	}
	if got := engine.Kind(nil); got != 0 {
		t.Errorf("the kind of no engine is %d", got)
	}
	for kind, e := range map[int]engine.Engine{api.List: engine.NewList(), api.Trie: engine.NewTrie(), api.Ranges: engine.NewRanges()} {
		if got := engine.Kind(e); got != kind {
			t.Errorf("Kind = %d, want %d", got, kind)
		}
	}
}

func TestANewEngineHasNoRoutes(t *testing.T) {
	inEach(t, func(t *testing.T, fresh func() engine.Engine) {
		e := fresh()
		for addr := range 256 {
			if r, found := e.Best(addr); found || r != (api.Route{}) {
				t.Fatalf("Best(%d) = %+v, %v", addr, r, found)
			}
		}
		if l := routes(e, prefix.First()); len(l) != 0 {
			t.Errorf("routes %+v", l)
		}
	})
}

func TestLayAndTakeTellWhatWasThere(t *testing.T) {
	inEach(t, func(t *testing.T, fresh func() engine.Engine) {
		e := fresh()
		if old := e.Take(px(128, 3)); old != 0 {
			t.Errorf("Take of none = %d", old)
		}
		if old := e.Lay(rt(128, 3, 9)); old != 0 {
			t.Errorf("Lay of a new route = %d", old)
		}
		if old := e.Lay(rt(128, 3, 4)); old != 9 {
			t.Errorf("Lay in place of another = %d", old)
		}
		for _, p := range []api.Prefix{px(128, 2), px(128, 4), px(144, 4), px(128, 8), px(0, 0), px(0, 3), px(160, 3)} {
			if old := e.Take(p); old != 0 {
				t.Errorf("Take(%+v) of none = %d", p, old)
			}
		}
		if l := routes(e, prefix.First()); !slices.Equal(l, []api.Route{rt(128, 3, 4)}) {
			t.Errorf("routes %+v", l)
		}
		if old := e.Take(px(128, 3)); old != 4 {
			t.Errorf("Take = %d", old)
		}
		if l := routes(e, prefix.First()); len(l) != 0 {
			t.Errorf("routes %+v", l)
		}
	})
}

func TestSetAndNext(t *testing.T) {
	inEach(t, func(t *testing.T, fresh func() engine.Engine) {
		e := fresh()
		e.Lay(rt(128, 4, 1))
		for _, c := range []struct{ next, old int }{{0, 0}, {7, 0}, {8, 7}, {0, 8}, {0, 0}} {
			if old := engine.Set(e, px(128, 3), c.next); old != c.old {
				t.Errorf("Set to %d = %d, want %d", c.next, old, c.old)
			}
			if next := engine.Next(e, px(128, 3)); next != c.next {
				t.Errorf("Next = %d, want %d", next, c.next)
			}
		}
		if next := engine.Next(e, px(192, 2)); next != 0 {
			t.Errorf("Next behind all routes = %d", next)
		}
	})
}

func TestBestIsTheLongestOfNested(t *testing.T) {
	inEach(t, func(t *testing.T, fresh func() engine.Engine) {
		e := fresh()
		for length := range api.Bits + 1 {
			e.Lay(rt(prefix.Covering(0xA5, length).Addr, length, length+1))
		}
		// The longest is taken away each time, so that the next one shows.
		for top := api.Bits; top >= 0; top-- {
			for addr := range 256 {
				want := 0
				for length := range top + 1 {
					if prefix.Covering(addr, length) == prefix.Covering(0xA5, length) {
						want = length
					}
				}
				if r, found := e.Best(addr); !found || r != rt(prefix.Covering(addr, want).Addr, want, want+1) {
					t.Fatalf("Best(%d) = %+v, %v, want Len %d", addr, r, found, want)
				}
			}
			e.Take(prefix.Covering(0xA5, top))
		}
	})
}

func TestBestAtTheEndsOfAPrefix(t *testing.T) {
	inEach(t, func(t *testing.T, fresh func() engine.Engine) {
		for _, p := range all() {
			e := fresh()
			e.Lay(rt(p.Addr, p.Len, 3))
			e.Lay(rt(p.Addr, p.Len, 4))
			for _, addr := range []int{p.Addr - 1, p.Addr, p.Addr + 256>>p.Len - 1, p.Addr + 256>>p.Len} {
				if addr < 0 || addr > 255 {
					continue
				}
				covered := addr >= p.Addr && addr < p.Addr+256>>p.Len
				if r, found := e.Best(addr); found != covered || covered && r != rt(p.Addr, p.Len, 4) || !covered && r != (api.Route{}) {
					t.Fatalf("with %+v alone, Best(%d) = %+v, %v", p, addr, r, found)
				}
			}
			e.Take(p)
			if r, found := e.Best(p.Addr); found {
				t.Fatalf("with %+v taken away, Best = %+v", p, r)
			}
		}
	})
}

func TestFromGoesThroughTheRoutesFromAnyPrefixOn(t *testing.T) {
	for name, marked := range map[string]func(p api.Prefix) bool{
		"all":    func(api.Prefix) bool { return true },
		"some":   func(p api.Prefix) bool { return (p.Addr/3+p.Len)%5 == 0 },
		"longs":  func(p api.Prefix) bool { return p.Len == api.Bits && p.Addr%7 == 3 },
		"shorts": func(p api.Prefix) bool { return p.Len < 4 },
	} {
		inEach(t, func(t *testing.T, fresh func() engine.Engine) {
			e := fresh()
			l := filled(e, marked)
			for _, from := range all() {
				var want []api.Route
				for _, r := range l {
					if r.Addr > from.Addr || r.Addr == from.Addr && r.Len >= from.Len {
						want = append(want, r)
					}
				}
				if got := routes(e, from); !slices.Equal(got, want) {
					t.Fatalf("%s: From(%+v) = %+v, want %+v", name, from, got, want)
				}
			}
		})
	}
}

func TestFromMayBeStoppedAnywhereAndBegunAnew(t *testing.T) {
	inEach(t, func(t *testing.T, fresh func() engine.Engine) {
		e := fresh()
		l := filled(e, func(p api.Prefix) bool { return (p.Addr/3+p.Len)%5 == 0 })
		walk := e.From(prefix.First())
		for stop := 1; stop <= len(l); stop++ {
			// Behind the stop it says to go on, so that an iterator that does not heed it is seen.
			var got []api.Route
			walk(func(r api.Route) bool { got = append(got, r); return len(got) != stop })
			if !slices.Equal(got, l[:stop]) {
				t.Fatalf("stopped at %d: %+v", stop, got)
			}
		}
	})
}

func TestFromIsOfTheRoutesThatThereAreWhenItIsGoneThrough(t *testing.T) {
	inEach(t, func(t *testing.T, fresh func() engine.Engine) {
		e := fresh()
		walk := e.From(px(1, 8))
		e.Lay(rt(0, 0, 1))
		e.Lay(rt(1, 8, 2))
		if got := slices.Collect(walk); !slices.Equal(got, []api.Route{rt(1, 8, 2)}) {
			t.Errorf("routes %+v", got)
		}
	})
}
