package engine_test

import (
	"testing"

	"fibshift/api"
	"fibshift/engine"
	"fibshift/prefix"
)

// needs tells, by the words of the document, how many cells some prefixes' routes need in each kind.
func needs(are map[api.Prefix]int) map[int]int {
	trie := map[api.Prefix]int{px(0, 0): 1}
	for p := range are {
		for length := range p.Len + 1 {
			trie[px(p.Addr&^(256>>length-1), length)] = 1
		}
	}
	stretches := 0
	last := api.Prefix{Len: -2}
	for addr := range 256 {
		own := api.Prefix{Len: -1}
		for length := range api.Bits + 1 {
			if p := px(addr&^(256>>length-1), length); are[p] != 0 {
				own = p
			}
		}
		if own != last {
			stretches++
		}
		last = own
	}
	return map[int]int{api.List: len(are), api.Trie: len(trie), api.Ranges: len(are) + stretches}
}

func wantNeeds(t *testing.T, e engine.Engine, are map[api.Prefix]int) {
	t.Helper()
	if got, want := e.Cells(), needs(are)[engine.Kind(e)]; got != want {
		t.Fatalf("%d cells, want %d, with %v", got, want, are)
	}
}

func TestCellsOfSomeRoutes(t *testing.T) {
	for name, c := range map[string]struct {
		of    []api.Prefix
		cells [3]int
	}{
		"none":                       {nil, [3]int{0, 1, 1}},
		"Len 0":                      {[]api.Prefix{px(0, 0)}, [3]int{1, 1, 2}},
		"the examples":               {[]api.Prefix{px(128, 1), px(128, 3)}, [3]int{2, 4, 5}},
		"the first address":          {[]api.Prefix{px(0, 8)}, [3]int{1, 9, 3}},
		"one between":                {[]api.Prefix{px(7, 8)}, [3]int{1, 9, 4}},
		"the last address":           {[]api.Prefix{px(255, 8)}, [3]int{1, 9, 3}},
		"both halves":                {[]api.Prefix{px(0, 1), px(128, 1)}, [3]int{2, 3, 4}},
		"both halves, and Len 0":     {[]api.Prefix{px(0, 0), px(0, 1), px(128, 1)}, [3]int{3, 3, 5}},
		"one in the other's begin":   {[]api.Prefix{px(64, 2), px(64, 4)}, [3]int{2, 5, 6}},
		"one in the other's middle":  {[]api.Prefix{px(64, 2), px(80, 4)}, [3]int{2, 5, 7}},
		"one in the other's end":     {[]api.Prefix{px(64, 2), px(112, 4)}, [3]int{2, 5, 6}},
		"one all over the other":     {[]api.Prefix{px(64, 2), px(64, 3), px(96, 3)}, [3]int{3, 5, 7}},
		"one behind the other":       {[]api.Prefix{px(64, 2), px(128, 2)}, [3]int{2, 5, 6}},
		"the two halves' neighbours": {[]api.Prefix{px(127, 8), px(128, 8)}, [3]int{2, 17, 6}},
	} {
		for i, want := range c.cells {
			forth, back := engine.New(i+1), engine.New(i+1)
			for k := range c.of {
				p, q := c.of[k], c.of[len(c.of)-1-k]
				forth.Lay(rt(p.Addr, p.Len, 5))
				back.Lay(rt(q.Addr, q.Len, k+1))
			}
			if forth.Cells() != want || back.Cells() != want {
				t.Errorf("%s, engine %d: %d and %d cells, want %d", name, i+1, forth.Cells(), back.Cells(), want)
			}
		}
	}
}

func TestCellsBehindLayingAllAndTakingThemAway(t *testing.T) {
	inEach(t, func(t *testing.T, fresh func() engine.Engine) {
		e := fresh()
		are := map[api.Prefix]int{}
		// 300 and 200 have no factor in common with how many prefixes there are, so that each one has its turn.
		l := all()
		for i := range l {
			p := l[i*300%len(l)]
			are[p] = 1
			e.Lay(rt(p.Addr, p.Len, 1))
			wantNeeds(t, e, are)
		}
		for i := range l {
			p := l[i*200%len(l)]
			e.Lay(rt(p.Addr, p.Len, 2))
			wantNeeds(t, e, are)
			delete(are, p)
			for range 2 {
				e.Take(p)
				wantNeeds(t, e, are)
			}
		}
		if l := routes(e, prefix.First()); len(l) != 0 {
			t.Errorf("routes are left: %+v", l)
		}
	})
}

func TestANextIsOfNoMatterToCells(t *testing.T) {
	inEach(t, func(t *testing.T, fresh func() engine.Engine) {
		same, other := fresh(), fresh()
		for i, p := range []api.Prefix{px(64, 2), px(128, 2), px(128, 3), px(0, 0)} {
			same.Lay(rt(p.Addr, p.Len, 7))
			other.Lay(rt(p.Addr, p.Len, i+1))
		}
		if same.Cells() != other.Cells() {
			t.Errorf("%d cells with one Next, %d with several", same.Cells(), other.Cells())
		}
		was := same.Cells()
		same.Lay(rt(128, 3, 8))
		if same.Cells() != was {
			t.Errorf("%d cells behind another Next, %d ahead of it", same.Cells(), was)
		}
	})
}
